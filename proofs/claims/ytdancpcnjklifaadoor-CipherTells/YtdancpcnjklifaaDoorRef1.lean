/- Several texts laid together. -/
import Derived.Test.YtdancpcnjklifaaDoorBase
import Derived.Test.YtdancpcnjklifaaDoorMathX
/- The walks over the document's own answers (Rot, Crc, Xor, Put, Get), and how a row of bytes that came in is cut. -/
namespace Go.Proofs.YtdancpcnjklifaaDoor
set_option maxRecDepth 100000
open Go.RowKit
theorem bit_val (c : UInt8) (j : Nat) : bits .and .u32 ((c.toNat : Int) / 2 ^ j % 4294967296) 1 = if (wide c).getLsbD j then 1 else 0 := by
  have hc := c.toNat_lt
  have e0 : ((c.toNat : Int) / 2 ^ j % 4294967296) = ((BitVec.ofNat 32 (c.toNat / 2 ^ j)).toNat : Int) := by
    rw [BitVec.toNat_ofNat]; simp
  have hlt : c.toNat / 2 ^ j < 256 := Nat.lt_of_le_of_lt (Nat.div_le_self _ _) hc
  have e1 : (wide c).getLsbD j = decide (c.toNat / 2 ^ j % 2 = 1) := by
    unfold wide
    rw [BitVec.getLsbD, BitVec.toNat_ofNat, Nat.mod_eq_of_lt (by omega), Nat.testBit_eq_decide_div_mod_eq]
  rw [e0, and1, BitVec.toNat_ofNat, Nat.mod_eq_of_lt (show c.toNat / 2 ^ j < 2 ^ 32 by omega), e1]
  by_cases h : c.toNat / 2 ^ j % 2 = 1
  · simp [h]
  · have : c.toNat / 2 ^ j % 2 = 0 := by omega
    simp [this]
theorem low_val (y : BitVec 32) : bits .and .u32 (y.toNat : Int) 1 = if y.getLsbD 0 then 1 else 0 := by
  rw [and1, lsb_mod]
  by_cases h : y.toNat % 2 = 1
  · simp [h]
  · have : y.toNat % 2 = 0 := by omega
    simp [this]
theorem refBit_yes (y : BitVec 32) (c : UInt8) (j : Nat) (h : (bits .and .u32 (y.toNat : Int) 1 != bits .and .u32 ((c.toNat : Int) / 2 ^ j % 4294967296) 1) = true) :
    bits .xor .u32 ((y.toNat : Int) / (2 : Int)) 3988292384 = ((refBit c j y).toNat : Int) := by
  rw [low_val, bit_val] at h
  have hne : ¬ y.getLsbD 0 = (wide c).getLsbD j := by intro e; rw [e] at h; simp at h
  have e : (3988292384 : Int) = (crcPoly.toNat : Int) := by decide
  rw [half_val, e, xor_val, refBit, if_neg hne]
theorem refBit_no (y : BitVec 32) (c : UInt8) (j : Nat) (h : (bits .and .u32 (y.toNat : Int) 1 != bits .and .u32 ((c.toNat : Int) / 2 ^ j % 4294967296) 1) = false) :
    (y.toNat : Int) / (2 : Int) = ((refBit c j y).toNat : Int) := by
  rw [low_val, bit_val] at h
  have heq : y.getLsbD 0 = (wide c).getLsbD j := by
    generalize y.getLsbD 0 = b1 at h ⊢
    generalize (wide c).getLsbD j = b2 at h ⊢
    revert h
    cases b1 <;> cases b2 <;> simp
  rw [half_val, refBit, if_pos heq]
theorem refNot_val (y : BitVec 32) : (4294967295 : Int) - (y.toNat : Int) = ((~~~ y).toNat : Int) := by
  rw [BitVec.toNat_not]; have := y.isLt; omega
theorem refAll_snoc (s : BitVec 32) (l : List UInt8) (k : Nat) (h : k < l.length) : crcAll s (l.take (k + 1)) = refBits (at8 l k) 8 (crcAll s (l.take k)) := by
  rw [crcAll_snoc s l k h, ← refBits_next]; rfl

/-- x turned by one bit, as the document reckons it. -/
theorem rot1_val (x : BitVec 32) : ((x.toNat : Int) * 2 % 4294967296 + (x.toNat : Int) / 2147483648) % 4294967296 = ((rotl x 1).toNat : Int) := by
  have hx := x.isLt
  have h := rotl_val x 1
  have e1 : ((1 : Int) % 32).toNat = 1 := by decide
  have e2 : ((32 : Int) - 1 % 32).toNat = 31 := by decide
  rw [e1, e2] at h
  rw [← h]
  have a1 : ((x.toNat : Int) * 2 ^ 1 % 4294967296) = ((x.toNat * 2 % 4294967296 : Nat) : Int) := by omega
  have a2 : ((x.toNat : Int) / 2 ^ 31) = ((x.toNat / 2147483648 : Nat) : Int) := by omega
  rw [a1, a2, u32_or_nat _ _ (by omega) (by omega)]
  have hor : (x.toNat * 2 % 4294967296) ||| (x.toNat / 2147483648) = x.toNat * 2 % 4294967296 + x.toNat / 2147483648 := by
    have hb : x.toNat / 2147483648 < 2 ^ 1 := by omega
    have := or_far (x.toNat % 2147483648) (x.toNat / 2147483648) 1 hb
    have e : x.toNat % 2147483648 * 2 ^ 1 = x.toNat * 2 % 4294967296 := by omega
    rwa [e] at this
  rw [hor]
  omega

theorem rot1_val' (x : BitVec 32) : (x.toNat : Int) * 2 % 4294967296 + (x.toNat : Int) / 2147483648 = ((rotl x 1).toNat : Int) := by
  have hx := x.isLt
  rw [← rot1_val]; omega
theorem rot_step (x : BitVec 32) (k : Nat) : ((rotl x k).toNat : Int) * 2 % 4294967296 + ((rotl x k).toNat : Int) / 2147483648 = ((rotl x ((k + 1 : Nat) : Int)).toNat : Int) := by
  rw [rot1_val', rotl_rotl]; rfl
theorem rotl_mod (x : BitVec 32) (n m : Int) (h : n % 32 = m % 32) : rotl x n = rotl x m := by unfold rotl; rw [h]

set_option maxHeartbeats 400000 in
set_option maxRecDepth 100000 in
theorem refRot_any (x : BitVec 32) (n : Int) (w : World) :
    Calls Tryd.prog 100 #[.int .u32 (x.toNat : Int), .int .i64 n] w fun e w' => e = .returned (.int .u32 ((rotl x n).toNat : Int)) ∧ w' = w := by
  obtain ⟨t, ht⟩ : ∃ t, n.tmod 32 = t := ⟨_, rfl⟩
  have hb : -32 < t ∧ t < 32 ∧ ((0 ≤ t ∧ n % 32 = t) ∨ (t < 0 ∧ n % 32 = t + 32)) := by
    rw [← ht]
    rcases Int.le_total 0 n with h | h
    · rw [Int.tmod_eq_emod_of_nonneg h]; omega
    · have e : n.tmod 32 = -((-n).tmod 32) := by rw [Int.neg_tmod]; omega
      rw [e, Int.tmod_eq_emod_of_nonneg (by omega)]; omega
  obtain ⟨hb1, hb2, hb3⟩ := hb
  by_cases h0 : t < 0
  · have hm : n % 32 = t + 32 := by omega
    have HM : Hid (n % 32 = t + 32) := hm
    clear hb3 hm
    go_enter Tryd.func100, Tryd.ntmps100
    go_wp2
    go_loop [0, 5] (fun c i => ∃ k : Nat, (k : Int) ≤ t + 32 ∧ i = .int .i64 k ∧ c = .int .u32 ((rotl x k).toNat : Int)) (fun _ i => (t + 32 - intOf i).toNat)
    case atStart => exact ⟨0, by omega, rfl, by rw [show rotl x ((0 : Nat) : Int) = x from rot_zero x]⟩
    case round =>
      obtain ⟨k, hk, rfl, rfl⟩ := hrel
      have hlt2 := (rotl x k).isLt
      by_cases hlt : (k : Int) < t + 32
      · go_wp2
        exact ⟨⟨k + 1, by omega, by go_num, by rw [rot_step]⟩, by simp [intOf]; omega⟩
      · have HE : Hid (rotl x k = rotl x n) := rotl_mod x k n (by rw [HM.out]; omega)
        go_wp2
        go_ret
        exact ⟨ret_int (by rw [HE.out]), rfl⟩
  · have hm : n % 32 = t := by omega
    have h0' : 0 ≤ t := by omega
    have HM : Hid (n % 32 = t) := hm
    clear hb3 hm
    go_enter Tryd.func100, Tryd.ntmps100
    go_wp2
    go_loop [0, 5] (fun c i => ∃ k : Nat, (k : Int) ≤ t ∧ i = .int .i64 k ∧ c = .int .u32 ((rotl x k).toNat : Int)) (fun _ i => (t - intOf i).toNat)
    case atStart => exact ⟨0, by omega, rfl, by rw [show rotl x ((0 : Nat) : Int) = x from rot_zero x]⟩
    case round =>
      obtain ⟨k, hk, rfl, rfl⟩ := hrel
      have hlt2 := (rotl x k).isLt
      by_cases hlt : (k : Int) < t
      · go_wp2
        exact ⟨⟨k + 1, by omega, by go_num, by rw [rot_step]⟩, by simp [intOf]; omega⟩
      · have HE : Hid (rotl x k = rotl x n) := rotl_mod x k n (by rw [HM.out]; omega)
        go_wp2
        go_ret
        exact ⟨ret_int (by rw [HE.out]), rfl⟩
end Go.Proofs.YtdancpcnjklifaaDoor

/- The walk over the document's Xor. -/
namespace Go.Proofs.YtdancpcnjklifaaDoor
set_option linter.unusedVariables false
set_option maxRecDepth 100000
open Go.RowKit
theorem or_sub_and (x y : UInt8) : (IntKind.u8.wrap (bits .or .u8 (x.toNat : Int) (y.toNat : Int) - bits .and .u8 (x.toNat : Int) (y.toNat : Int))) = ((x ^^^ y).toNat : Int) := by
  have hx := x.toNat_lt
  have hy := y.toNat_lt
  have e1 : x.toNat ||| y.toNat = (x.toNat ^^^ y.toNat) + (x.toNat &&& y.toNat) := by
    have hz : (x.toBitVec ^^^ y.toBitVec) &&& (x.toBitVec &&& y.toBitVec) = 0#8 := by
      apply BitVec.eq_of_getLsbD_eq
      intro i hi
      simp only [BitVec.getLsbD_and, BitVec.getLsbD_xor, BitVec.getLsbD_zero]
      cases x.toBitVec.getLsbD i <;> cases y.toBitVec.getLsbD i <;> rfl
    have ho : (x.toBitVec ^^^ y.toBitVec) ||| (x.toBitVec &&& y.toBitVec) = x.toBitVec ||| y.toBitVec := by
      apply BitVec.eq_of_getLsbD_eq
      intro i hi
      simp only [BitVec.getLsbD_and, BitVec.getLsbD_xor, BitVec.getLsbD_or]
      cases x.toBitVec.getLsbD i <;> cases y.toBitVec.getLsbD i <;> rfl
    have hs := BitVec.add_eq_or_of_and_eq_zero _ _ hz
    have h1 : (x.toNat ^^^ y.toNat) ||| (x.toNat &&& y.toNat) = x.toNat ||| y.toNat := by
      have := congrArg BitVec.toNat ho
      simpa using this
    have h2 := congrArg BitVec.toNat hs
    rw [BitVec.toNat_add] at h2
    simp only [BitVec.toNat_xor, BitVec.toNat_and, BitVec.toNat_or, UInt8.toNat_toBitVec] at h2
    have b1 : x.toNat ||| y.toNat < 2 ^ 8 := Nat.or_lt_two_pow hx hy
    rw [h1] at h2
    have b2 : (x.toNat ^^^ y.toNat) < 2 ^ 8 := Nat.xor_lt_two_pow hx hy
    have b3 : (x.toNat &&& y.toNat) < 2 ^ 8 := Nat.and_lt_two_pow _ hy
    have b4 : (x.toNat ^^^ y.toNat) ≤ x.toNat ||| y.toNat := by rw [← h1]; exact Nat.left_le_or
    have b5 : (x.toNat &&& y.toNat) ≤ x.toNat ||| y.toNat := by rw [← h1]; exact Nat.right_le_or
    omega
  rw [u8_or_nat _ _ hx hy, u8_and_nat _ _ hx hy, e1, UInt8.toNat_xor, IntKind.wrap_u8']
  have b2 : (x.toNat ^^^ y.toNat) < 2 ^ 8 := Nat.xor_lt_two_pow hx hy
  omega

set_option maxHeartbeats 400000 in
set_option maxRecDepth 100000 in
theorem refXor_any (a b : Option Addr) (len cap lenb capb : Nat) (l m : List UInt8) (w : World) (hA : Byt w a len l) (hB : Byt w b lenb m) (hla : len ≤ 1000000) (hlb : lenb ≤ 1000000) :
    Calls Tryd.prog 56 #[.slice a len cap, .slice b lenb capb] w fun e w' => ∃ a' cap', e = .returned (.slice a' (min len lenb) cap') ∧ Below w.heap.size w w' ∧ Byt w' a' (min len lenb) (xorB l m) := by
  obtain ⟨n, hn⟩ : ∃ n, n = min len lenb := ⟨_, rfl⟩
  rw [← hn]
  have Hn : Hid (n = min len lenb) := hn
  have hn1 : n ≤ len := by omega
  have hn2 : n ≤ lenb := by omega
  have hn3 : len ≤ n ∨ lenb ≤ n := by omega
  clear hn
  go_enter Tryd.func56, Tryd.ntmps56
  go_wp2
  go_loopw [5, 6] (fun v i wr => ∃ (k : Nat) (a' : Option Addr) (cap' : Nat), k ≤ n ∧ i = .int .i64 k ∧ v = .slice a' k cap' ∧ Seg wr 5 a' k cap' (((xorB l m).take k).map bv) ∧ (∀ j, blockOf a' = some j → w.heap.size ≤ j) ∧ Below w.heap.size w wr) (fun _ i _ => n - (intOf i).toNat)
  case atStart =>
    exact ⟨0, some ⟨w.heap.size, 0, none⟩, 0, Nat.zero_le _, rfl, rfl, ⟨rfl, .inr ⟨w.heap.size, 0, #[], rfl, heap_alloc_new w _, by simp, Nat.le_refl _, fun i hi => by omega⟩⟩, by intro j hj; simp [blockOf] at hj; omega, (Below.refl _ _).alloc (Nat.le_refl _) _⟩
  case round =>
    obtain ⟨k, a', cap', hk, rfl, rfl, hseg, hbl, hbel⟩ := hrel
    have hlA := hA.1
    have hlB := hB.1
    by_cases hlt : k < n
    · rcases hA.2 with h0 | ⟨ba, offa, rfl, hca⟩
      · omega
      rcases hB.2 with h0 | ⟨bb, offb, rfl, hcb⟩
      · omega
      have hca' := hca k (by omega)
      have hcb' := hcb k (by omega)
      have hba := World.block_lt_of_cell? w _ hca'
      have hbb := World.block_lt_of_cell? w _ hcb'
      have i1 : (k : Int) < (len : Int) := by omega
      have i2 : (k : Int) < (lenb : Int) := by omega
      go_wp2
      refine wp_region_sched' (G := Below w.heap.size) (by kernel_rfl) (Below.refl _) (fun _ _ _ => Below.trans) (by kernel_rfl) [(0, true), (1, true), (2, true), (3, true), (4, true), (5, true), (6, true), (7, true), (8, true), (9, true), (10, true), (11, true), (12, true), (13, true), (14, true), (15, true), (16, true), (17, true), (18, true), (19, true), (20, false), (21, false), (22, true)] rfl (by kernel_rfl) ?_
      intro KK hKK
      have hwr : Below w.heap.size w wr.drew := hbel.drew
      obtain ⟨W, hW⟩ : ∃ W, wr.drew = W := ⟨_, rfl⟩
      rw [hW]
      rw [hW] at hwr
      have hld1 : ∀ w', Below w.heap.size W w' → w'.cell? ⟨ba, offa + k, none⟩ = some (.int .u8 ((at8 l k).toNat : Int)) := fun w' h => by
        rw [(hwr.trans h).cell (p := ⟨ba, offa + k, none⟩) hba]; exact hca'
      have hld2 : ∀ w', Below w.heap.size W w' → w'.cell? ⟨bb, offb + k, none⟩ = some (.int .u8 ((at8 m k).toNat : Int)) := fun w' h => by
        rw [(hwr.trans h).cell (p := ⟨bb, offb + k, none⟩) hbb]; exact hcb'
      iterate 20 (refine sched_take rfl (by rfl) (v := ?_) ?_ ?_; rotate_left; (intro w' hw'; have q1 := hld1 w' hw'; have q2 := hld2 w' hw'; go_simp; with_reducible rfl); go_simp)
      have hsegW : Seg W 5 a' k cap' (((xorB l m).take k).map bv) := hseg.kept fun g _ => by rw [← hW]; rfl
      have hsz : W.heap.size = wr.heap.size := by rw [← hW]; rfl
      obtain ⟨i0, hi, hz0, hz1, hz2⟩ := info_parts Tryd.infoU8
      obtain ⟨a2, cap2, w2, hap, hs2, hgr, hfr, hsz2⟩ := append_seg (P := Tryd.prog) 29 29 5 i0 (.int .u8 0) 1 Tryd.underlying29 hi hz0 hz1 hz2 rfl W a' k cap' _ hsegW (bv (at8 l k ^^^ at8 m k)) rfl (by unfold maxLen; omega) (by omega)
      refine sched_val rfl (by rfl) (v := .slice (some ⟨W.heap.size, 0, none⟩) 1 1) (w' := W.alloc (.cells #[bv (at8 l k ^^^ at8 m k)] 5)) ?_ ((Below.refl _ _).alloc hwr.size _) ?_
      · rw [bv, ← or_sub_and]
        go_simp
      · refine sched_append rfl (by rfl) rfl (by rfl) (by rfl) hap (below_append hgr hsz2 hwr.size hbl _) ?_
        go_simp
        refine sched_take rfl (by rfl) (v := ?_) ?_ ?_
        rotate_left
        · intro w' hw'; go_simp; with_reducible rfl
        go_simp
        have hb2 : Below w.heap.size w w2 := hwr.trans (((Below.refl _ _).alloc hwr.size _).trans (below_append hgr hsz2 hwr.size hbl (.cells #[bv (at8 l k ^^^ at8 m k)] 5)))
        have hs3 : Hid (Seg w2 5 a2 (k + 1) cap2 (((xorB l m).take (k + 1)).map bv)) := by
          rw [take_at _ _ (by rw [xorB_length]; omega), xorB_at _ _ _ (by omega) (by omega), List.map_append]
          exact hs2
        have hbl2 : Hid (∀ j, blockOf a2 = some j → w.heap.size ≤ j) := by
          intro j hj
          rcases hfr with e | e
          · exact hbl j (by rw [← e]; exact hj)
          · have := e j hj; have := hwr.size; omega
        clear hs2 hfr hap hgr hld1 hld2 hsegW hca hcb
        refine sched_done hKK ?_
        go_wp2
        exact ⟨⟨k + 1, a2, cap2, by omega, by go_num, rfl, hs3.out, hbl2.out, hb2⟩, by simp [intOf]; omega⟩
    · have ek : k = n := by omega
      subst ek
      by_cases hk2 : (k : Int) < (len : Int)
      · have hk3 : ¬ (k : Int) < (lenb : Int) := by omega
        go_wp2
        go_ret
        refine ⟨a', ⟨cap', rfl⟩, hbel, ?_⟩
        have hf := Byt.ofSeg hseg
        rwa [List.take_of_length_le (by rw [xorB_length, hlA, hlB, ← Hn.out]; exact Nat.le_refl _)] at hf
      · go_wp2
        go_ret
        refine ⟨a', ⟨cap', rfl⟩, hbel, ?_⟩
        have hf := Byt.ofSeg hseg
        rwa [List.take_of_length_le (by rw [xorB_length, hlA, hlB, ← Hn.out]; exact Nat.le_refl _)] at hf
end Go.Proofs.YtdancpcnjklifaaDoor

/- The walks over the document's Get and Put. -/
namespace Go.Proofs.YtdancpcnjklifaaDoor
set_option linter.unusedVariables false
set_option maxRecDepth 100000
open Go.RowKit

/-- What stands in the number when i of its bytes have been taken, the highest first. -/
def hor (bs : List UInt8) (big : Bool) (i : Nat) : Nat := if big then leN (bs.take i).reverse else leN (bs.drop (bs.length - i))
def horAt (size : Nat) (big : Bool) (i : Nat) : Nat := if big then i else size - 1 - i
theorem hor_zero (bs : List UInt8) (big : Bool) : hor bs big 0 = 0 := by cases big <;> simp [hor, leN]
theorem hor_all (bs : List UInt8) (big : Bool) : hor bs big bs.length = valB bs big := by cases big <;> simp [hor, valB]
theorem hor_lt (bs : List UInt8) (big : Bool) (i : Nat) (h : i ≤ bs.length) : hor bs big i < 256 ^ i := by
  cases big
  · simp only [hor, Bool.false_eq_true, if_false]
    have hl := leN_lt (bs.drop (bs.length - i))
    rw [List.length_drop, show bs.length - (bs.length - i) = i by omega] at hl
    exact hl
  · simp only [hor, if_true]
    have hl := leN_lt (bs.take i).reverse
    rwa [List.length_reverse, List.length_take, Nat.min_eq_left h] at hl
theorem hor_step (bs : List UInt8) (big : Bool) (i : Nat) (h : i < bs.length) : hor bs big (i + 1) = hor bs big i * 256 + (at8 bs (horAt bs.length big i)).toNat := by
  cases big
  · simp only [hor, horAt, Bool.false_eq_true, if_false]
    have hd : bs.drop (bs.length - (i + 1)) = bs[bs.length - 1 - i] :: bs.drop (bs.length - i) := by
      rw [show bs.length - (i + 1) = bs.length - 1 - i by omega, List.drop_eq_getElem_cons (by omega), show bs.length - 1 - i + 1 = bs.length - i by omega]
    rw [hd, leN, at8_get _ _ (by omega)]
    omega
  · simp only [hor, horAt, if_true]
    rw [getV_be_step bs i h, at8_get _ _ h]
    omega
theorem hor_bound (bs : List UInt8) (big : Bool) (i : Nat) (h : i < bs.length) (h8 : bs.length ≤ 8) : (hor bs big i : Int) < 72057594037927936 := by
  have h1 := hor_lt bs big i (by omega)
  have h2 : (256 : Nat) ^ i ≤ 256 ^ 7 := Nat.pow_le_pow_right (by decide) (by omega)
  omega

set_option maxHeartbeats 400000 in
set_option maxRecDepth 100000 in
theorem refGet_no (a : Option Addr) (len cap : Nat) (at_ size : Int) (big : Bool) (w : World) (hm : len ≤ maxLen) (ha : -9223372036854775808 ≤ at_ ∧ at_ ≤ 9223372036854775807)
    (h : ¬ (1 ≤ size ∧ size ≤ 8 ∧ 0 ≤ at_ ∧ at_ + size ≤ len)) :
    Calls Tryd.prog 88 #[.slice a len cap, .int .i64 at_, .int .i64 size, .bool big] w fun e w' => e = .returned (.tuple #[.int .u64 0, .bool false]) ∧ w' = w := by
  unfold maxLen at hm
  by_cases h1 : size < 1
  · go_enter Tryd.func88, Tryd.ntmps88
    go_wp2
    go_ret2
    exact ⟨rfl, rfl⟩
  by_cases h2 : 8 < size
  · go_enter Tryd.func88, Tryd.ntmps88
    go_wp2
    go_ret2
    exact ⟨rfl, rfl⟩
  by_cases h3 : at_ < 0
  · go_enter Tryd.func88, Tryd.ntmps88
    go_wp2
    go_ret2
    exact ⟨rfl, rfl⟩
  by_cases h4 : (len : Int) < at_
  · go_enter Tryd.func88, Tryd.ntmps88
    go_wp2
    go_ret2
    exact ⟨rfl, rfl⟩
  · have h5 : (len : Int) - at_ < size := by omega
    go_enter Tryd.func88, Tryd.ntmps88
    go_wp2
    go_ret2
    exact ⟨rfl, rfl⟩

set_option maxHeartbeats 400000 in
set_option maxRecDepth 100000 in
theorem refGet_len (b off len cap : Nat) (at_ size : Nat) (big : Bool) (l : List UInt8) (w : World) (hm : len ≤ maxLen) (hlc : len ≤ cap)
    (hB : Byt w (some ⟨b, off, none⟩) len l) (h1 : 1 ≤ size) (h8 : size ≤ 8) (h : at_ + size ≤ len) :
    Calls Tryd.prog 88 #[.slice (some ⟨b, off, none⟩) len cap, .int .i64 at_, .int .i64 size, .bool big] w fun e w' => e = .returned (.tuple #[.int .u64 (getV l big at_ size : Int), .bool true]) ∧ w' = w := by
  unfold maxLen at hm
  obtain ⟨hl, hB⟩ := hB
  have g1 : ¬ (size : Int) < 1 := by omega
  have g2 : ¬ (8 : Int) < size := by omega
  have g3 : ¬ (at_ : Int) < 0 := by omega
  have g4 : ¬ (len : Int) < at_ := by omega
  have g5 : ¬ (len : Int) - at_ < size := by omega
  have hcl := cutB_length l at_ size (by omega)
  go_enter Tryd.func88, Tryd.ntmps88
  go_wp2
  go_loop [10, 11] (fun n i => ∃ k : Nat, k ≤ size ∧ i = .int .i64 k ∧ n = .int .u64 (hor (cutB l at_ size) big k : Int)) (fun _ i => size - (intOf i).toNat)
  case atStart => exact ⟨0, Nat.zero_le _, rfl, by rw [hor_zero]; rfl⟩
  case round =>
    obtain ⟨k, hk, rfl, rfl⟩ := hrel
    by_cases hlt : k < size
    · rcases hB with h0 | ⟨b', off', e, hc⟩
      · omega
      · cases e
        have hb := hor_bound (cutB l at_ size) big k (by omega) (by omega)
        have HS : Hid (hor (cutB l at_ size) big (k + 1) = hor (cutB l at_ size) big k * 256 + (at8 l (at_ + horAt size big k)).toNat) := by
          have e := hor_step (cutB l at_ size) big k (by omega)
          rw [hcl] at e
          rwa [cutB_at l at_ size _ (by unfold horAt; cases big <;> simp <;> omega)] at e
        have hb2 := at8_lt l (at_ + horAt size big k)
        cases big
        · obtain ⟨p, hp⟩ : ∃ p : Nat, (size : Int) - 1 - (k : Int) = (p : Int) := ⟨size - 1 - k, by omega⟩
          have hpe : horAt size false k = p := by simp [horAt]; omega
          rw [hpe] at HS hb2
          have hck := hc (at_ + p) (by omega)
          have hi1 : (at_ : Int) + (p : Int) < (len : Int) := by omega
          go_wp2
          exact ⟨⟨k + 1, by omega, by go_num, by rw [HS.out]; go_num⟩, by simp [intOf]; omega⟩
        · have hpe : horAt size true k = k := by simp [horAt]
          rw [hpe] at HS hb2
          have hck := hc (at_ + k) (by omega)
          have hi1 : (at_ : Int) + (k : Int) < (len : Int) := by omega
          go_wp2
          exact ⟨⟨k + 1, by omega, by go_num, by rw [HS.out]; go_num⟩, by simp [intOf]; omega⟩
    · have HE : Hid (hor (cutB l at_ size) big k = getV l big at_ size) := by
        have e2 : k = (cutB l at_ size).length := by omega
        show _ = _
        rw [e2, hor_all]; rfl
      go_wp2
      go_ret2
      exact ⟨ret_two (by rw [HE.out]), rfl⟩

/-- A number divided by 256 so often. -/
def divs (n k : Nat) : Nat := n / 256 ^ k
theorem divs_succ (n k : Nat) : divs n (k + 1) = divs n k / 256 := by unfold divs; rw [Nat.pow_succ, Nat.div_div_eq_div_mul]
theorem divs_lt (n k : Nat) (h : n < 18446744073709551616) : (divs n k : Int) < 18446744073709551616 := by
  have : divs n k ≤ n := Nat.div_le_self _ _
  omega
theorem divs_byte (sz n : Nat) (big : Bool) (k p : Nat) (h : k < sz) (hp : posI big sz k = (p : Int)) : (divs n p : Int) % 256 = ((at8 (putB sz n big) k).toNat : Int) := by
  rw [putB_at sz n big k h, hp]
  have e : (8 * (p : Int)).toNat = 8 * p := by omega
  have e2 : ((n : Int) / 2 ^ (8 * p)) = ((n / 2 ^ (8 * p) : Nat) : Int) := by simp
  rw [e, e2, ← pow256]
  rfl
theorem refGet_yes (b off len cap : Nat) (at_ size : Nat) (big : Bool) (l : List UInt8) (w : World) (hm : cap ≤ maxLen) (hlc : len ≤ cap)
    (hB : Byt w (some ⟨b, off, none⟩) len l) (h1 : 1 ≤ size) (h8 : size ≤ 8) (h : at_ + size ≤ len) :
    Calls Tryd.prog 88 #[.slice (some ⟨b, off, none⟩) len cap, .int .i64 at_, .int .i64 size, .bool big] w fun e w' => e = .returned (.tuple #[.int .u64 (getV l big at_ size : Int), .bool true]) ∧ w' = w :=
  refGet_len b off len cap at_ size big l w (Nat.le_trans hlc hm) hlc hB h1 h8 h


set_option maxHeartbeats 1000000 in
set_option maxRecDepth 100000 in
theorem refPut_seg (a : Option Addr) (len cap : Nat) (size : Int) (n : Nat) (hn : n < 18446744073709551616) (big : Bool) (l : List UInt8) (w : World) (hm : len ≤ 1000000)
    (hB : Byt w a len l) (hnil : a = none → cap = 0) (sz : Nat) (hsz : (sz : Int) = min (max size 0) 8) :
    Calls Tryd.prog 42 #[.slice a len cap, .int .i64 size, .int .u64 (n : Int), .bool big] w fun e w' => ∃ a' cap', e = .returned (.slice a' (len + sz) cap') ∧ Below w.heap.size w w' ∧ Seg w' 5 a' (len + sz) cap' ((l ++ putB sz n big).map bv) ∧ ∀ j, blockOf a' = some j → w.heap.size ≤ j := by
  obtain ⟨mx, e1⟩ : ∃ mx : Int, (if size < 0 then (0 : Int) else size) = mx := ⟨_, rfl⟩
  have e2 : (if 8 < mx then (8 : Int) else mx) = (sz : Int) := by rw [hsz, ← e1]; split <;> split <;> omega
  have hs8 : sz ≤ 8 := by omega
  clear hsz
  obtain ⟨a2, cap2, w2, hap, hs2, hb2, hbl2⟩ := append_all w a len cap l hB hnil hm
  have HAP : Hid (_) := hap
  clear hap
  go_enter Tryd.func42, Tryd.ntmps42
  go_wp2_with (at_builtin; refine wpList_append_run rfl (.tmp 14) (.tmp 15) 29 rfl _ _ _ _ rfl rfl HAP.out ?_)
  go_loopw [9, 10] (fun v i wr => ∃ (k : Nat) (a' : Option Addr) (cap' : Nat), k ≤ sz ∧ i = .int .i64 k ∧ v = .slice a' (len + k) cap' ∧ Seg wr 5 a' (len + k) cap' (putTo l sz n big k) ∧ (∀ j, blockOf a' = some j → w.heap.size ≤ j) ∧ Below w.heap.size w wr) (fun _ i _ => sz - (intOf i).toNat)
  case atStart => exact ⟨0, a2, cap2, Nat.zero_le _, rfl, rfl, by simpa [putTo] using hs2, hbl2, hb2⟩
  case round =>
    obtain ⟨k, a', cap', hk, rfl, rfl, hseg, hbl, hbel⟩ := hrel
    by_cases hlt : k < sz
    · obtain ⟨hp0, hp1⟩ := posI_bound big sz k (by omega) (by omega)
      obtain ⟨p, hp⟩ : ∃ p : Nat, posI big sz k = (p : Int) := ⟨(posI big sz k).toNat, by omega⟩
      have hp8 : p < 8 := by omega
      have hbyte := divs_byte sz n big k p hlt hp
      have hpb : (if big = true then (sz : Int) - 1 - (k : Int) else (k : Int)) = (p : Int) := by rw [← hp]; rfl
      cases big
      · have hpk : p = k := by simp [posI] at hp; omega
        clear hpb hp hp0 hp1
        subst hpk
        go_wp2
        go_loop [12, 13] (fun x j => ∃ q : Nat, q ≤ p ∧ j = .int .i64 q ∧ x = .int .u64 (divs n q : Int)) (fun _ j => p - (intOf j).toNat)
        case atStart => exact ⟨0, Nat.zero_le _, rfl, by simp [divs]⟩
        case round =>
          obtain ⟨q, hq, rfl, rfl⟩ := hrel
          have hdv := divs_lt n q hn
          by_cases hqp : q < p
          · have HQ : Hid ((divs n (q + 1) : Int) = (divs n q : Int) / 256) := by show _ = _; rw [divs_succ]; simp
            go_wp2
            exact ⟨⟨q + 1, by omega, by go_num, by rw [HQ.out]⟩, by simp [intOf]; omega⟩
          · have hqe : p = q := by omega
            subst hqe
            obtain ⟨i0, hi, hz0, hz1, hz2⟩ := info_parts Tryd.infoU8
            obtain ⟨a3, cap3, w3, hap3, hs3, hgr3, hfr3, hsz3⟩ := append_seg (P := Tryd.prog) 29 29 5 i0 (.int .u8 0) 1 Tryd.underlying29 hi hz0 hz1 hz2 rfl wr a' (len + p) cap' _ hseg (.int .u8 ((at8 (putB sz n false) p).toNat : Int)) rfl (by unfold maxLen; omega) (by omega)
            have HA3 : Hid (_) := hap3
            have HS3 : Hid (Seg w3 5 a3 (len + (p + 1)) cap3 (putTo l sz n false (p + 1))) := by
              rw [putTo_succ l sz n false p hlt]; exact hs3
            have HB3 : Hid (∀ j, blockOf a3 = some j → w.heap.size ≤ j) := by
              intro j hj
              rcases hfr3 with e | e
              · exact hbl j (by rw [← e]; exact hj)
              · have := e j hj; have := hbel.size; omega
            have hb3 : Below w.heap.size w w3 := hbel.grown hgr3 hbel.size hbl
            clear hap3 hs3 hgr3 hfr3
            go_wp2_with (at_builtin; refine wpList_append_run rfl (.tmp 39) (.tmp 43) 29 rfl _ _ _ _ rfl rfl HA3.out ?_)
            exact ⟨⟨p + 1, a3, cap3, by omega, by go_num, rfl, HS3.out, HB3.out, hb3⟩, by simp [intOf]; omega⟩
      · have hpb' : (sz : Int) - 1 - (k : Int) = (p : Int) := hp
        clear hpb hp hp0 hp1
        go_wp2
        go_loop [12, 13] (fun x j => ∃ q : Nat, q ≤ p ∧ j = .int .i64 q ∧ x = .int .u64 (divs n q : Int)) (fun _ j => p - (intOf j).toNat)
        case atStart => exact ⟨0, Nat.zero_le _, rfl, by simp [divs]⟩
        case round =>
          obtain ⟨q, hq, rfl, rfl⟩ := hrel
          have hdv := divs_lt n q hn
          by_cases hqp : q < p
          · have HQ : Hid ((divs n (q + 1) : Int) = (divs n q : Int) / 256) := by show _ = _; rw [divs_succ]; simp
            go_wp2
            exact ⟨⟨q + 1, by omega, by go_num, by rw [HQ.out]⟩, by simp [intOf]; omega⟩
          · have hqe : p = q := by omega
            subst hqe
            obtain ⟨i0, hi, hz0, hz1, hz2⟩ := info_parts Tryd.infoU8
            obtain ⟨a3, cap3, w3, hap3, hs3, hgr3, hfr3, hsz3⟩ := append_seg (P := Tryd.prog) 29 29 5 i0 (.int .u8 0) 1 Tryd.underlying29 hi hz0 hz1 hz2 rfl wr a' (len + k) cap' _ hseg (.int .u8 ((at8 (putB sz n true) k).toNat : Int)) rfl (by unfold maxLen; omega) (by omega)
            have HA3 : Hid (_) := hap3
            have HS3 : Hid (Seg w3 5 a3 (len + (k + 1)) cap3 (putTo l sz n true (k + 1))) := by
              rw [putTo_succ l sz n true k hlt]; exact hs3
            have HB3 : Hid (∀ j, blockOf a3 = some j → w.heap.size ≤ j) := by
              intro j hj
              rcases hfr3 with e | e
              · exact hbl j (by rw [← e]; exact hj)
              · have := e j hj; have := hbel.size; omega
            have hb3 : Below w.heap.size w w3 := hbel.grown hgr3 hbel.size hbl
            clear hap3 hs3 hgr3 hfr3
            go_wp2_with (at_builtin; refine wpList_append_run rfl (.tmp 39) (.tmp 43) 29 rfl _ _ _ _ rfl rfl HA3.out ?_)
            exact ⟨⟨k + 1, a3, cap3, by omega, by go_num, rfl, HS3.out, HB3.out, hb3⟩, by simp [intOf]; omega⟩
    · have ek : k = sz := by omega
      subst ek
      go_wp2
      go_ret
      refine ⟨a', cap', rfl, hbel, ?_, hbl⟩
      have hf := hseg
      unfold putTo at hf
      rwa [List.take_of_length_le (by rw [putB_length]; exact Nat.le_refl _)] at hf
theorem refPut_any (a : Option Addr) (len cap : Nat) (size : Int) (n : Nat) (hn : n < 18446744073709551616) (big : Bool) (l : List UInt8) (w : World) (hm : len ≤ 1000000)
    (hB : Byt w a len l) (hnil : a = none → cap = 0) (sz : Nat) (hsz : (sz : Int) = min (max size 0) 8) :
    Calls Tryd.prog 42 #[.slice a len cap, .int .i64 size, .int .u64 (n : Int), .bool big] w fun e w' => ∃ a' cap', e = .returned (.slice a' (len + sz) cap') ∧ Below w.heap.size w w' ∧ Byt w' a' (len + sz) (l ++ putB sz n big) :=
  (refPut_seg a len cap size n hn big l w hm hB hnil sz hsz).mono fun e w' h => by
    obtain ⟨a', cap', rfl, hb, hs, _⟩ := h
    exact ⟨a', cap', rfl, hb, Byt.ofSeg hs⟩
end Go.Proofs.YtdancpcnjklifaaDoor

/- The walks over the document's block and stream. -/
namespace Go.Proofs.YtdancpcnjklifaaDoor
set_option linter.unusedVariables false
set_option maxRecDepth 100000
open Go.RowKit

/-- A word of 32 bits as a number of 64. -/
def wv (x : BitVec 32) : Value := .int .u64 (x.toNat : Int)

set_option maxHeartbeats 400000 in
set_option maxRecDepth 100000 in
theorem refCut_any (x : Int) (w : World) (h0 : 0 ≤ x) (h1 : x < 18446744073709551616) :
    Calls Tryd.prog 96 #[.int .u64 x] w fun e w' => e = .returned (.int .u64 (x % 4294967296)) ∧ w' = w := by
  go_enter Tryd.func96, Tryd.ntmps96
  go_wp2
  go_ret
  exact ⟨rfl, rfl⟩
set_option maxHeartbeats 400000 in
set_option maxRecDepth 100000 in
theorem refTurn_any (x : BitVec 32) (n : Int) (w : World) :
    Calls Tryd.prog 97 #[.int .u64 (x.toNat : Int), .int .i64 n] w fun e w' => e = .returned (.int .u64 ((rotl x n).toNat : Int)) ∧ w' = w := by
  have hx := x.isLt
  go_enter Tryd.func97, Tryd.ntmps97
  go_wp2_with (go_at_call 100; refine (refRot_any x n _).mono ?_; rintro e w' ⟨rfl, rfl⟩)
  go_ret
  exact ⟨rfl, rfl⟩

theorem Seg.word {w : World} {g off n cap : Nat} {l : List (BitVec 32)} (h : Seg w 24 (some ⟨g, off, none⟩) n cap (l.map wv)) (i : Nat) (hi : i < n) :
    w.cell? ⟨g, off + i, none⟩ = some (.int .u64 ((at32 l i).toNat : Int)) ∧ w.frozen? ⟨g, off + i, none⟩ = false := by
  have hl := h.1
  rw [List.length_map] at hl
  obtain ⟨g', off', e, hc, hf⟩ := h.cell i hi
  cases e
  refine ⟨?_, hf⟩
  rw [hc, List.getElem?_map, List.getElem?_eq_getElem (by omega), at32_get l i (by omega)]
  rfl
theorem sum_val (x y : BitVec 32) : ((x.toNat : Int) + (y.toNat : Int)) % 4294967296 = ((x + y).toNat : Int) := by
  rw [BitVec.toNat_add]; omega
theorem xor_val64 (y z : BitVec 32) : bits .xor .u64 (y.toNat : Int) (z.toNat : Int) = ((y ^^^ z).toNat : Int) := by
  rw [u64_xor_nat _ _ (by have := y.isLt; omega) (by have := z.isLt; omega), BitVec.toNat_xor]

set_option maxHeartbeats 2000000 in
set_option maxRecDepth 100000 in
theorem refHalf_any (g off cap n : Nat) (l : List (BitVec 32)) (a b d : Nat) (s : Int) (w : World) (hS : Seg w 24 (some ⟨g, off, none⟩) n cap (l.map wv)) (ha : a < n) (hb : b < n) (hd : d < n) (had : a ≠ d) :
    Calls Tryd.prog 89 #[.slice (some ⟨g, off, none⟩) n cap, .int .i64 a, .int .i64 b, .int .i64 d, .int .i64 s] w fun e w' => (∃ v, e = .returned v) ∧ Seg w' 24 (some ⟨g, off, none⟩) n cap ((qhalf l a b d s).map wv) ∧ w.grownBy w' (some g) := by
  have hl : l.length = n := by have := hS.1; simpa using this
  obtain ⟨ca, fa⟩ := hS.word a ha
  obtain ⟨cb, fb⟩ := hS.word b hb
  obtain ⟨x, hx⟩ : ∃ x, at32 l a + at32 l b = x := ⟨_, rfl⟩
  have HX : Hid (((at32 l a).toNat : Int) + ((at32 l b).toNat : Int) < 18446744073709551616) := by have := (at32 l a).isLt; have := (at32 l b).isLt; show _ < _; omega
  have HU : Hid (IntKind.u64.wrap (((at32 l a).toNat : Int) + ((at32 l b).toNat : Int)) = ((at32 l a).toNat : Int) + ((at32 l b).toNat : Int)) := by have := HX.out; show _ = _; rw [IntKind.wrap_u64]; omega
  have HV : Hid ((((at32 l a).toNat : Int) + ((at32 l b).toNat : Int)) % 4294967296 = (x.toNat : Int)) := by show _ = _; rw [sum_val, hx]
  have HS1 : Hid (Seg (w.drew.setCell ⟨g, off + a, none⟩ (wv x)) 24 (some ⟨g, off, none⟩) n cap ((l.set a x).map wv)) := by
    rw [List.map_set]
    exact hS.drew.set a ha _
  obtain ⟨W0, hW0⟩ : ∃ W0, w.drew = W0 := ⟨_, rfl⟩
  rw [hW0] at HS1
  obtain ⟨W, hW⟩ : ∃ W, W0.setCell ⟨g, off + a, none⟩ (wv x) = W := ⟨_, rfl⟩
  rw [hW] at HS1
  have ca0 : W0.cell? ⟨g, off + a, none⟩ = some (.int .u64 ((at32 l a).toNat : Int)) := by rw [← hW0]; exact ca
  have cb0 : W0.cell? ⟨g, off + b, none⟩ = some (.int .u64 ((at32 l b).toNat : Int)) := by rw [← hW0]; exact cb
  have fa0 : W0.frozen? ⟨g, off + a, none⟩ = false := by rw [← hW0]; exact fa
  obtain ⟨cd, fd⟩ := HS1.out.word d hd
  obtain ⟨ca2, fa2⟩ := HS1.out.word a ha
  rw [at32_set_same _ _ _ (by omega)] at ca2
  rw [at32_set_other _ _ _ _ had] at cd
  obtain ⟨W1, hW1⟩ : ∃ W1, W.drew = W1 := ⟨_, rfl⟩
  obtain ⟨y, hy⟩ : ∃ y, at32 l d ^^^ x = y := ⟨_, rfl⟩
  have HY : Hid (bits .xor .u64 ((at32 l d).toNat : Int) (x.toNat : Int) = (y.toNat : Int)) := by show _ = _; rw [xor_val64, hy]
  obtain ⟨W2, hW2⟩ : ∃ W2, W1.setCell ⟨g, off + d, none⟩ (wv (rotl y s)) = W2 := ⟨_, rfl⟩
  have HW2 : Hid (W1.setCell ⟨g, off + d, none⟩ (.int .u64 ((rotl y s).toNat : Int)) = W2) := hW2
  have cd1 : W1.cell? ⟨g, off + d, none⟩ = some (.int .u64 ((at32 l d).toNat : Int)) := by rw [← hW1]; exact cd
  have ca1 : W1.cell? ⟨g, off + a, none⟩ = some (.int .u64 (x.toNat : Int)) := by rw [← hW1]; exact ca2
  have fd1 : W1.frozen? ⟨g, off + d, none⟩ = false := by rw [← hW1]; exact fd
  have HS2 : Hid (Seg W2 24 (some ⟨g, off, none⟩) n cap ((qhalf l a b d s).map wv)) := by
    have h1 := (HS1.out.drew).set d hd (wv (rotl y s))
    rw [hW1, hW2] at h1
    rw [qhalf, hx, hy, List.map_set]
    exact h1
  have HG : Hid (w.grownBy W2 (some g)) := by
    have k1 : W.os = w.os ∧ W.tape = w.tape ∧ W.output = w.output ∧ w.heap.size ≤ W.heap.size := by rw [← hW, ← hW0]; exact ⟨rfl, rfl, rfl, by simp⟩
    have k2 : W2.os = W.os ∧ W2.tape = W.tape ∧ W2.output = W.output ∧ W.heap.size ≤ W2.heap.size := by rw [← hW2, ← hW1]; exact ⟨rfl, rfl, rfl, by simp⟩
    refine ⟨k2.1.trans k1.1, k2.2.1.trans k1.2.1, k2.2.2.1.trans k1.2.2.1, Nat.le_trans k1.2.2.2 k2.2.2.2, fun j hj hne => ?_⟩
    have hjg : j ≠ g := fun e => hne (by rw [e])
    rw [← hW2, heap_setCell_other W1 ⟨g, off + d, none⟩ j _ hjg, ← hW1]
    show W.heap[j]? = _
    rw [← hW, heap_setCell_other W0 ⟨g, off + a, none⟩ j _ hjg, ← hW0]
    rfl
  have HW1 : Hid (W.drew = W1) := hW1
  have HW : Hid (W0.setCell ⟨g, off + a, none⟩ (.int .u64 (x.toNat : Int)) = W) := hW
  have HW0 : Hid (w.drew = W0) := hW0
  have hs : Hid (Seg w 24 (some ⟨g, off, none⟩) n cap (l.map wv)) := hS
  have i1 : (a : Int) < (n : Int) := by omega
  have i2 : (b : Int) < (n : Int) := by omega
  have i3 : (d : Int) < (n : Int) := by omega
  clear hS hW hx hW0 ca cb fa fb hW1 hW2 hy cd ca2 fd fa2
  go_enter Tryd.func89, Tryd.ntmps89
  go_wp2
  refine wp_region_sched' (G := Stays) (by kernel_rfl) Stays.refl Stays.trans (by kernel_rfl) [(0, true), (1, true), (2, true), (3, true), (4, true), (5, true), (6, true), (7, true), (8, true), (9, true), (10, true), (11, false), (12, true), (13, false)] rfl (by kernel_rfl) ?_
  intro KK hKK
  rw [HW0.out]
  iterate 11 (refine sched_take rfl (by rfl) (v := ?_) ?_ ?_; rotate_left; (rintro w' rfl; go_simp; with_reducible rfl); go_simp)
  refine sched_call (f := 96) (args := #[.int .u64 (((at32 l a).toNat : Int) + ((at32 l b).toNat : Int))]) rfl (by rfl) (by go_simp; rw [HU.out]) ?_
  refine (refCut_any _ _ (by omega) HX.out).mono ?_
  rintro e w' ⟨rfl, rfl⟩
  refine ⟨_, rfl, rfl, ?_⟩
  rw [HV.out]
  go_simp
  iterate 1 (refine sched_take rfl (by rfl) (v := ?_) ?_ ?_; rotate_left; (rintro w' rfl; go_simp; with_reducible rfl); go_simp)
  refine sched_store rfl (by rfl) (w' := W) (by rw [← HW.out]; go_simp) (by kernel_rfl) ?_
  go_simp
  refine sched_done hKK ?_
  go_wp2
  refine wp_region_sched' (G := Stays) (by kernel_rfl) Stays.refl Stays.trans (by kernel_rfl) [(0, true), (1, true), (2, true), (3, true), (4, true), (5, true), (6, true), (7, true), (8, true), (9, true), (10, true), (11, true), (12, false), (13, true), (14, false)] rfl (by kernel_rfl) ?_
  intro KK2 hKK2
  rw [HW1.out]
  iterate 12 (refine sched_take rfl (by rfl) (v := ?_) ?_ ?_; rotate_left; (rintro w' rfl; go_simp; with_reducible rfl); go_simp)
  refine sched_call (f := 97) (args := #[.int .u64 (y.toNat : Int), .int .i64 s]) rfl (by rfl) (by go_simp; rw [HY.out]) ?_
  refine (refTurn_any y s _).mono ?_
  rintro e w' ⟨rfl, rfl⟩
  refine ⟨_, rfl, rfl, ?_⟩
  go_simp
  iterate 1 (refine sched_take rfl (by rfl) (v := ?_) ?_ ?_; rotate_left; (rintro w' rfl; go_simp; with_reducible rfl); go_simp)
  refine sched_store rfl (by rfl) (w' := W2) (by rw [← HW2.out]; go_simp) (by kernel_rfl) ?_
  go_simp
  refine sched_done hKK2 ?_
  go_wp2
  go_end0
  exact ⟨⟨_, rfl⟩, HS2.out, HG.out⟩

set_option maxHeartbeats 400000 in
set_option maxRecDepth 100000 in
theorem refQuarter_any (g off cap n : Nat) (l : List (BitVec 32)) (a b c d : Nat) (w : World) (hS : Seg w 24 (some ⟨g, off, none⟩) n cap (l.map wv)) (ha : a < n) (hb : b < n) (hc : c < n) (hd : d < n) (had : a ≠ d) (hcb : c ≠ b) :
    Calls Tryd.prog 75 #[.slice (some ⟨g, off, none⟩) n cap, .int .i64 a, .int .i64 b, .int .i64 c, .int .i64 d] w fun e w' => (∃ v, e = .returned v) ∧ Seg w' 24 (some ⟨g, off, none⟩) n cap ((qtr l a b c d).map wv) ∧ w.grownBy w' (some g) := by
  have HS : Hid (Seg w 24 (some ⟨g, off, none⟩) n cap (l.map wv)) := hS
  clear hS
  go_enter Tryd.func75, Tryd.ntmps75
  go_wp2_with fail
  refine (refHalf_any g off cap n l a b d 16 _ HS.out ha hb hd had).mono ?_
  rintro e w1 ⟨⟨v, rfl⟩, h1, g1⟩
  have HS1 : Hid _ := h1
  have G1 : Hid (w.grownBy w1 (some g)) := g1
  clear h1 g1
  go_wp2_with fail
  refine (refHalf_any g off cap n _ c d b 12 _ HS1.out hc hd hb hcb).mono ?_
  rintro e w2 ⟨⟨v, rfl⟩, h2, g2⟩
  have HS2 : Hid _ := h2
  have G2 : Hid (w1.grownBy w2 (some g)) := g2
  clear h2 g2
  go_wp2_with fail
  refine (refHalf_any g off cap n _ a b d 8 _ HS2.out ha hb hd had).mono ?_
  rintro e w3 ⟨⟨v, rfl⟩, h3, g3⟩
  have HS3 : Hid _ := h3
  have G3 : Hid (w2.grownBy w3 (some g)) := g3
  clear h3 g3
  go_wp2_with fail
  refine (refHalf_any g off cap n _ c d b 7 _ HS3.out hc hd hb hcb).mono ?_
  rintro e w4 ⟨⟨v, rfl⟩, h4, g4⟩
  have HS4 : Hid _ := h4
  have G4 : Hid (w3.grownBy w4 (some g)) := g4
  clear h4 g4
  go_wp2
  go_end0
  exact ⟨⟨_, rfl⟩, HS4.out, ((G1.out.trans G2.out).trans G3.out).trans G4.out⟩
end Go.Proofs.YtdancpcnjklifaaDoor

/- The walks over the document's words and block. -/
namespace Go.Proofs.YtdancpcnjklifaaDoor
set_option linter.unusedVariables false
set_option maxRecDepth 100000
open Go.RowKit

theorem Tryd.infoU64 : (Tryd.prog.info? 24).map (fun i => (i.zero, i.size, i.bytes)) = some (some (.int .u64 0), 1, 8) := by kernel_rfl

set_option maxHeartbeats 400000 in
set_option maxRecDepth 100000 in
theorem refWords_any (b off m cap : Nat) (l : List UInt8) (w : World) (hc : 4 * m ≤ cap) (hm : cap ≤ 9223372036854775807) (hmm : m ≤ 1000) (hB : Byt w (some ⟨b, off, none⟩) (4 * m) l) :
    Calls Tryd.prog 74 #[.slice (some ⟨b, off, none⟩) (4 * m : Nat) cap] w fun e w' => ∃ a' cap', e = .returned (.slice a' m cap') ∧ Below w.heap.size w w' ∧ Seg w' 24 a' m cap' ((wordsTo l m).map wv) ∧ ∀ j, blockOf a' = some j → w.heap.size ≤ j := by
  obtain ⟨L, hL⟩ : ∃ L, 4 * m = L := ⟨_, rfl⟩
  rw [hL] at hB hc ⊢
  go_enter Tryd.func74, Tryd.ntmps74
  go_wp2
  go_loopw [3, 4] (fun v i wr => ∃ (k : Nat) (a' : Option Addr) (cap' : Nat), k ≤ m ∧ i = .int .i64 ((4 * k : Nat) : Int) ∧ v = .slice a' k cap' ∧ Seg wr 24 a' k cap' ((wordsTo l k).map wv) ∧ (∀ j, blockOf a' = some j → w.heap.size ≤ j) ∧ Below w.heap.size w wr) (fun _ i _ => 4 * m - (intOf i).toNat)
  case atStart =>
    exact ⟨0, some ⟨w.heap.size, 0, none⟩, 0, Nat.zero_le _, rfl, rfl, ⟨rfl, .inr ⟨w.heap.size, 0, #[], rfl, heap_alloc_new w _, by simp, Nat.le_refl _, fun i hi => by omega⟩⟩, by intro j hj; simp [blockOf] at hj; omega, (Below.refl _ _).alloc (Nat.le_refl _) _⟩
  case round =>
    obtain ⟨k, a', cap', hk, rfl, rfl, hseg, hbl, hbel⟩ := hrel
    by_cases hlt : k < m
    · obtain ⟨p, hp⟩ : ∃ p, 4 * k = p := ⟨_, rfl⟩
      have hB2 : Byt wr (some ⟨b, off, none⟩) L l := by
        refine ⟨hB.1, ?_⟩
        rcases hB.2 with h0 | ⟨b', off', e, hc'⟩
        · exact .inl h0
        · refine .inr ⟨b', off', e, fun i hi => ?_⟩
          have := hc' i hi
          rw [hbel.cell (p := ⟨b', off' + i, none⟩) (World.block_lt_of_cell? w _ this)]
          exact this
      have HB2 : Hid (Byt wr (some ⟨b, off, none⟩) L l) := hB2
      have HWd : Hid ((getV l false p 4 : Int) = ((wordAt l k).toNat : Int)) := by show _ = _; rw [wordAt_val, hp]
      rw [hp]
      have i1 : (p : Int) + 4 ≤ (L : Int) := by omega
      obtain ⟨i0, hi, hz0, hz1, hz2⟩ := info_parts Tryd.infoU64
      obtain ⟨a3, cap3, w3, hap3, hs3, hgr3, hfr3, hsz3⟩ := append_seg (P := Tryd.prog) 116 116 24 i0 (.int .u64 0) 8 Tryd.underlying116 hi hz0 hz1 hz2 rfl wr a' k cap' _ hseg (.int .u64 ((wordAt l k).toNat : Int)) rfl (by unfold maxLen; omega) (by omega)
      have HA3 : Hid (_) := hap3
      have HS3 : Hid (Seg w3 24 a3 (k + 1) cap3 ((wordsTo l (k + 1)).map wv)) := by
        rw [wordsTo_succ, List.map_append]; exact hs3
      have HB3 : Hid (∀ j, blockOf a3 = some j → w.heap.size ≤ j) := by
        intro j hj
        rcases hfr3 with e | e
        · exact hbl j (by rw [← e]; exact hj)
        · have := e j hj; have := hbel.size; omega
      have hb3 : Below w.heap.size w w3 := hbel.grown hgr3 hbel.size hbl
      clear hap3 hs3 hgr3 hfr3 hB2
      go_wp2_with fail
      refine (refGet_yes b off L cap p 4 false l wr (by unfold maxLen; omega) hc HB2.out (by omega) (by omega) (by omega)).mono ?_
      rintro e w' ⟨rfl, rfl⟩
      rw [HWd.out]
      go_wp2_with (at_builtin; refine wpList_append_run rfl (.tmp 21) (.tmp 23) 116 rfl _ _ _ _ rfl rfl HA3.out ?_)
      exact ⟨⟨k + 1, a3, cap3, by omega, by go_num, rfl, HS3.out, HB3.out, hb3⟩, by simp [intOf]; omega⟩
    · have ek : k = m := by omega
      subst ek
      have i1 : ¬ ((4 * k : Nat) : Int) + 4 ≤ (L : Int) := by omega
      go_wp2
      go_ret
      exact ⟨a', cap', rfl, hbel, hseg, hbl⟩
end Go.Proofs.YtdancpcnjklifaaDoor

/- The walk over the document's block. -/
namespace Go.Proofs.YtdancpcnjklifaaDoor
set_option linter.unusedVariables false
set_option maxRecDepth 100000
open Go.RowKit

theorem wv_oneCell (l : List (BitVec 32)) : ∀ u ∈ l.map wv, u.oneCell' = true := by
  intro u hu
  simp only [List.mem_map] at hu
  obtain ⟨c, _, rfl⟩ := hu
  rfl
/-- 'append(l, s...)' of words. -/
theorem append_words (w : World) (base : Nat) (v : Value) (n : Nat) (xs : List (BitVec 32)) (hown : w.ownsRow base 24 1 v n (xs.map wv)) (x : Addr) (m c : Nat) (ys : List (BitVec 32)) (hs : Seg w 24 (some x) m c (ys.map wv)) (hb : base ≤ w.heap.size) (hsm : n + m ≤ 1000) :
    ∃ v' w', (Builtin.append_ #[116, 116] 116 #[v, .slice (some x) m c]).run Tryd.prog w = .ok v' w' ∧ w'.ownsRow base 24 1 v' (n + m) ((xs ++ ys).map wv) ∧ w.grownBy w' v.ownBlock := by
  obtain ⟨i0, hi, hz0, hz1, hz2⟩ := info_parts Tryd.infoU64
  have hl := hs.1
  obtain ⟨v', w', hr, ho, hg, _⟩ := run_append_own (P := Tryd.prog) w base 116 116 24 i0 (.int .u64 0) 1 8 Tryd.underlying116 hi hz0 hz1 hz2 rfl (by decide) v n _ hown x m c (ys.map wv) (by omega) hs.cellsW (wv_oneCell ys) (by unfold maxLen; omega) (by omega) hb
  exact ⟨v', w', hr, by rw [List.map_append]; exact ho, hg⟩
/-- Between the turns: the words, and what they were. -/
structure Cha (w : World) (g h cg ch : Nat) (l l0 : List (BitVec 32)) (wr : World) : Prop where
  now : Seg wr 24 (some ⟨g, 0, none⟩) 16 cg (l.map wv)
  was : Seg wr 24 (some ⟨h, 0, none⟩) 16 ch (l0.map wv)
  ne : h ≠ g
  bg : w.heap.size ≤ g
  bel : Below w.heap.size w wr
theorem Cha.next {w wr w' : World} {g h cg ch : Nat} {l l' l0 : List (BitVec 32)} (c : Cha w g h cg ch l l0 wr) (hs : Seg w' 24 (some ⟨g, 0, none⟩) 16 cg (l'.map wv)) (hg : wr.grownBy w' (some g)) : Cha w g h cg ch l' l0 w' :=
  ⟨hs, c.was.kept fun j hj => by
      have e : j = h := by simp [blockOf] at hj; exact hj.symm
      subst e
      exact hg.block j (c.was.lt j rfl) (fun e => c.ne (by cases e; rfl)),
    c.ne, c.bg, c.bel.grown hg c.bel.size (fun k e => by cases e; exact c.bg)⟩
theorem Cha.grow {w wr w' : World} {g h cg ch : Nat} {l l0 : List (BitVec 32)} (c : Cha w g h cg ch l l0 wr) (hb : Below wr.heap.size wr w') : Cha w g h cg ch l l0 w' :=
  ⟨c.now.kept fun j hj => hb.block j (c.now.lt j hj), c.was.kept fun j hj => hb.block j (c.was.lt j hj), c.ne, c.bg, c.bel.trans (hb.mono c.bel.size)⟩
theorem rem4 (k j : Nat) : ((k : Int) + (j : Int)).tmod 4 = (((k + j) % 4 : Nat) : Int) := by
  rw [Int.tmod_eq_emod_of_nonneg (by omega)]; omega

set_option maxHeartbeats 2000000 in
set_option maxRecDepth 100000 in
theorem refBlock_cap (kb koff nb noff kc nc : Nat) (key nonce : List UInt8) (ctr : BitVec 32) (w : World) (hkc : 32 ≤ kc) (hnc : 12 ≤ nc) (hkm : kc ≤ 9223372036854775807) (hnm : nc ≤ 9223372036854775807)
    (hK : Byt w (some ⟨kb, koff, none⟩) 32 key) (hN : Byt w (some ⟨nb, noff, none⟩) 12 nonce) :
    Calls Tryd.prog 55 #[.slice (some ⟨kb, koff, none⟩) 32 kc, .int .u32 (ctr.toNat : Int), .slice (some ⟨nb, noff, none⟩) 12 nc] w fun e w' => ∃ a' cap', e = .returned (.slice a' 64 cap') ∧ Below w.heap.size w w' ∧ Byt w' a' 64 (blk key ctr nonce) ∧ 64 ≤ cap' := by
  have hkb := hK.lt (by omega)
  have hnb := hN.lt (by omega)
  obtain ⟨W0, hW0⟩ : ∃ W0, w.alloc (.cells #[.int .u64 1634760805, .int .u64 857760878, .int .u64 2036477234, .int .u64 1797285236] 24) = W0 := ⟨_, rfl⟩
  have own0 : W0.ownsRow w.heap.size 24 1 (.slice (some ⟨w.heap.size, 0, none⟩) 4 4) 4 (chaHead.map wv) := by
    rw [← hW0]
    exact World.ownsRow_lit w _ 4 (Nat.le_refl _) (by unfold maxLen; omega) rfl
  have bel0 : Below w.heap.size w W0 := by rw [← hW0]; exact (Below.refl _ _).alloc (Nat.le_refl _) _
  have HK0 : Hid (Byt W0 (some ⟨kb, koff, none⟩) 32 key) := hK.below hkb bel0
  have HO0 : Hid (W0.ownsRow w.heap.size 24 1 (.slice (some ⟨w.heap.size, 0, none⟩) 4 4) 4 (chaHead.map wv)) := own0
  have HN : Hid (Byt w (some ⟨nb, noff, none⟩) 12 nonce) := hN
  have HB0 : Hid (Below w.heap.size w W0) := bel0
  have HW0 : Hid (w.alloc (.cells #[.int .u64 1634760805, .int .u64 857760878, .int .u64 2036477234, .int .u64 1797285236] 24) = W0) := hW0
  clear hK hN own0 bel0 hW0
  go_enter Tryd.func55, Tryd.ntmps55
  go_wp2_with fail
  rw [HW0.out]
  refine (refWords_any kb koff 8 kc key _ hkc hkm (by omega) HK0.out).mono ?_
  rintro e w1 ⟨a1, c1, rfl, hb1, hs1, hbl1⟩
  obtain ⟨g1, off1, rfl, _, _⟩ := hs1.cell 0 (by omega)
  have bel1 : Below w.heap.size w w1 := HB0.out.trans (hb1.mono HB0.out.size)
  have own1 := HO0.out.kept (grown_below hb1) (.inr (by simp [Value.ownBlock]))
  obtain ⟨v2, w2, hap2, own2, hg2⟩ := append_words w1 w.heap.size _ 4 _ own1 ⟨g1, off1, none⟩ 8 c1 _ hs1 bel1.size (by omega)
  have bel2 : Below w.heap.size w w2 := bel1.grown hg2 bel1.size (fun k hk => (own1.lt k hk).1)
  have hs2 : Seg (w2.alloc (.cells #[.int .u64 (ctr.toNat : Int)] 24)) 24 (some ⟨w2.heap.size, 0, none⟩) 1 1 ([ctr].map wv) :=
    ⟨rfl, .inr ⟨w2.heap.size, 0, #[.int .u64 (ctr.toNat : Int)], rfl, heap_alloc_new w2 _, by simp, Nat.le_refl _, fun i hi => by have : i = 0 := by omega
                                                                                                                                  subst this; rfl⟩⟩
  obtain ⟨v3, w3, hap3, own3, hg3⟩ := append_words (w2.alloc (.cells #[.int .u64 (ctr.toNat : Int)] 24)) w.heap.size _ 12 _ (own2.alloc _) ⟨w2.heap.size, 0, none⟩ 1 1 [ctr] hs2 (by have := bel2.size; simp; omega) (by omega)
  have bel3 : Below w.heap.size w w3 := (bel2.alloc bel2.size _).grown hg3 (by have := bel2.size; simp; omega) (fun k hk => (own2.lt k hk).1)
  have HA2 : Hid ((Builtin.append_ #[116, 116] 116 #[.slice (some ⟨w.heap.size, 0, none⟩) 4 4, .slice (some ⟨g1, off1, none⟩) 8 c1]).run Tryd.prog w1 = .ok v2 w2) := hap2
  have HA3 : Hid ((Builtin.append_ #[116, 116] 116 #[v2, .slice (some ⟨w2.heap.size, 0, none⟩) 1 1]).run Tryd.prog (w2.alloc (.cells #[.int .u64 (ctr.toNat : Int)] 24)) = .ok v3 w3) := hap3
  have HO3 : Hid (w3.ownsRow w.heap.size 24 1 v3 13 ((chaHead ++ wordsTo key 8 ++ [ctr]).map wv)) := own3
  have HB3 : Hid (Below w.heap.size w w3) := bel3
  clear hs1 hb1 hbl1 bel1 own1 hap2 own2 hg2 bel2 hs2 hap3 own3 hg3 bel3 HK0 HO0 HB0 HW0
  go_wp2_with (at_builtin; first | refine wpList_append_run rfl (.tmp 15) (.tmp 17) 116 rfl _ _ _ _ rfl rfl HA2.out ?_ | refine wpList_append_run rfl (.tmp 19) (.tmp 22) 116 rfl _ _ _ _ rfl rfl HA3.out ?_)
  refine (refWords_any nb noff 3 nc nonce _ hnc hnm (by omega) (HN.out.below hnb HB3.out)).mono ?_
  rintro e w4 ⟨a4, c4, rfl, hb4, hs4, hbl4⟩
  obtain ⟨g4, off4, rfl, _, _⟩ := hs4.cell 0 (by omega)
  have bel4 : Below w.heap.size w w4 := HB3.out.trans (hb4.mono HB3.out.size)
  have own4 := HO3.out.kept (grown_below hb4) (by
    rcases h : v3.ownBlock with _ | j
    · exact .inl rfl
    · exact .inr (by simp))
  obtain ⟨v5, w5, hap5, own5, hg5⟩ := append_words w4 w.heap.size _ 13 _ own4 ⟨g4, off4, none⟩ 3 c4 _ hs4 bel4.size (by omega)
  have bel5 : Below w.heap.size w w5 := bel4.grown hg5 bel4.size (fun k hk => (own4.lt k hk).1)
  obtain ⟨g, cg, rfl, hbg, seg5⟩ := own_slice own5 (by omega)
  have hg5lt : g < w5.heap.size := seg5.lt g rfl
  have own6 : (w5.alloc (.cells #[] 24)).ownsRow w5.heap.size 24 1 (.slice (some ⟨w5.heap.size, 0, none⟩) 0 0) 0 (([] : List (BitVec 32)).map wv) := World.ownsRow_made w5 #[] 0 (Nat.le_refl _) (Nat.zero_le _) rfl
  have seg6 : Seg (w5.alloc (.cells #[] 24)) 24 (some ⟨g, 0, none⟩) 16 cg ((chaHead ++ wordsTo key 8 ++ [ctr] ++ wordsTo nonce 3).map wv) := seg5.kept fun j hj => Below.heap_alloc w5 _ j (seg5.lt j hj)
  obtain ⟨v7, w7, hap7, own7, hg7⟩ := append_words (w5.alloc (.cells #[] 24)) w5.heap.size _ 0 [] own6 ⟨g, 0, none⟩ 16 cg _ seg6 (by simp) (by omega)
  obtain ⟨h, ch, rfl, hbh, seg7⟩ := own_slice own7 (by omega)
  have hg7' : (w5.alloc (.cells #[] 24)).grownBy w7 (some w5.heap.size) := hg7
  have HC0 : Hid (Cha w g h cg ch (chaAt key ctr nonce) (chaAt key ctr nonce) w7) := by
    refine ⟨?_, seg7, by omega, hbg, ?_⟩
    · exact seg6.kept fun j hj => hg7'.block j (seg6.lt j hj) (by
        intro e
        have e1 : j = g := by simp [blockOf] at hj; exact hj.symm
        cases e
        omega)
    · exact (bel5.alloc bel5.size _).grown hg7' (by have := bel5.size; simp; omega) (fun k hk => by cases hk; exact bel5.size)
  have HA5 : Hid ((Builtin.append_ #[116, 116] 116 #[v3, .slice (some ⟨g4, off4, none⟩) 3 c4]).run Tryd.prog w4 = .ok (.slice (some ⟨g, 0, none⟩) 16 cg) w5) := hap5
  have HA7 : Hid ((Builtin.append_ #[116, 116] 116 #[.slice (some ⟨w5.heap.size, 0, none⟩) 0 0, .slice (some ⟨g, 0, none⟩) 16 cg]).run Tryd.prog (w5.alloc (.cells #[] 24)) = .ok (.slice (some ⟨h, 0, none⟩) 16 ch) w7) := hap7
  clear hb4 hs4 hbl4 bel4 own4 hap5 own5 hg5 bel5 hbg seg5 own6 seg6 hap7 own7 hg7 hg7' seg7 hbh HO3 HB3 HA2 HA3 HN
  go_wp2_with (at_builtin; first | refine wpList_append_run rfl (.tmp 24) (.tmp 26) 116 rfl _ _ _ _ rfl rfl HA5.out ?_ | refine wpList_append_run rfl (.tmp 28) (.tmp 29) 116 rfl _ _ _ _ rfl rfl HA7.out ?_)
  clear HA5 HA7
  obtain ⟨l0, hl0⟩ : ∃ l0, chaAt key ctr nonce = l0 := ⟨_, rfl⟩
  rw [hl0] at HC0
  have HL0 : Hid (chaAt key ctr nonce = l0) := hl0
  have hlen0 : l0.length = 16 := by rw [← hl0]; exact chaAt_length key ctr nonce
  clear hl0
  go_loopw [9] (fun i wr => ∃ k : Nat, k ≤ 10 ∧ i = .int .i64 k ∧ Hid (Cha w g h cg ch (turned k l0) l0 wr)) (fun i _ => 10 - (intOf i).toNat)
  case atStart => exact ⟨0, by omega, rfl, HC0⟩
  case round =>
    obtain ⟨k, hk, rfl, hC⟩ := hrel
    by_cases hlt : k < 10
    · have hkr : (k : Int) < 10 := by omega
      go_wp2
      go_loopw [10] (fun i wr => ∃ j : Nat, j ≤ 4 ∧ i = .int .i64 j ∧ Hid (Cha w g h cg ch (cols j (turned k l0)) l0 wr)) (fun i _ => 4 - (intOf i).toNat)
      case atStart => exact ⟨0, by omega, rfl, hC⟩
      case round =>
        clear hC
        obtain ⟨j, hj, rfl, hD⟩ := hrel
        by_cases hjl : j < 4
        · obtain ⟨p1, hp1⟩ : ∃ p, 4 + j = p := ⟨_, rfl⟩
          obtain ⟨p2, hp2⟩ : ∃ p, 8 + j = p := ⟨_, rfl⟩
          obtain ⟨p3, hp3⟩ : ∃ p, 12 + j = p := ⟨_, rfl⟩
          have e1 : (4 : Int) + (j : Int) = (p1 : Int) := by omega
          have e2 : (8 : Int) + (j : Int) = (p2 : Int) := by omega
          have e3 : (12 : Int) + (j : Int) = (p3 : Int) := by omega
          have hlj : (j : Int) < 4 := by omega
          go_wp2_with fail
          refine (refQuarter_any g 0 cg 16 _ j p1 p2 p3 _ hD.out.now (by omega) (by omega) (by omega) (by omega) (by omega) (by omega)).mono ?_
          rintro e w8 ⟨⟨v, rfl⟩, hs8, hg8⟩
          have HD8 : Hid (Cha w g h cg ch (cols (j + 1) (turned k l0)) l0 w8) := by
            rw [cols, hp1, hp2, hp3]
            exact hD.out.next hs8 hg8
          clear hs8 hg8
          go_wp2
          exact ⟨⟨j + 1, by omega, by go_num, HD8⟩, by simp [intOf]; omega⟩
        · have ej : j = 4 := by omega
          have hjr : ¬ (j : Int) < 4 := by omega
          have HD4 : Hid (Cha w g h cg ch (cols 4 (turned k l0)) l0 wr) := by rw [← ej]; exact hD.out
          clear hD
          go_wp2
          go_loopw [11] (fun i wr => ∃ j : Nat, j ≤ 4 ∧ i = .int .i64 j ∧ Hid (Cha w g h cg ch (slants j (cols 4 (turned k l0))) l0 wr)) (fun i _ => 4 - (intOf i).toNat)
          case atStart => exact ⟨0, by omega, rfl, HD4⟩
          case round =>
            clear HD4
            obtain ⟨q, hq, rfl, hE⟩ := hrel
            by_cases hql : q < 4
            · obtain rfl | rfl | rfl | rfl : q = 0 ∨ q = 1 ∨ q = 2 ∨ q = 3 := by omega
              · go_wp2_with fail
                refine (refQuarter_any g 0 cg 16 _ 0 5 10 15 _ hE.out.now (by omega) (by omega) (by omega) (by omega) (by omega) (by omega)).mono ?_
                rintro e w8 ⟨⟨v, rfl⟩, hs8, hg8⟩
                have HE8 : Hid (Cha w g h cg ch (slants 1 (cols 4 (turned k l0))) l0 w8) := hE.out.next hs8 hg8
                clear hs8 hg8
                go_wp2
                go_roundw
                case rel => exact ⟨1, by omega, rfl, HE8⟩
                case measure => simp [intOf]
              · go_wp2_with fail
                refine (refQuarter_any g 0 cg 16 _ 1 6 11 12 _ hE.out.now (by omega) (by omega) (by omega) (by omega) (by omega) (by omega)).mono ?_
                rintro e w8 ⟨⟨v, rfl⟩, hs8, hg8⟩
                have HE8 : Hid (Cha w g h cg ch (slants 2 (cols 4 (turned k l0))) l0 w8) := hE.out.next hs8 hg8
                clear hs8 hg8
                go_wp2
                go_roundw
                case rel => exact ⟨2, by omega, rfl, HE8⟩
                case measure => simp [intOf]
              · go_wp2_with fail
                refine (refQuarter_any g 0 cg 16 _ 2 7 8 13 _ hE.out.now (by omega) (by omega) (by omega) (by omega) (by omega) (by omega)).mono ?_
                rintro e w8 ⟨⟨v, rfl⟩, hs8, hg8⟩
                have HE8 : Hid (Cha w g h cg ch (slants 3 (cols 4 (turned k l0))) l0 w8) := hE.out.next hs8 hg8
                clear hs8 hg8
                go_wp2
                go_roundw
                case rel => exact ⟨3, by omega, rfl, HE8⟩
                case measure => simp [intOf]
              · go_wp2_with fail
                refine (refQuarter_any g 0 cg 16 _ 3 4 9 14 _ hE.out.now (by omega) (by omega) (by omega) (by omega) (by omega) (by omega)).mono ?_
                rintro e w8 ⟨⟨v, rfl⟩, hs8, hg8⟩
                have HE8 : Hid (Cha w g h cg ch (slants 4 (cols 4 (turned k l0))) l0 w8) := hE.out.next hs8 hg8
                clear hs8 hg8
                go_wp2
                go_roundw
                case rel => exact ⟨4, by omega, rfl, HE8⟩
                case measure => simp [intOf]
            · have eq : q = 4 := by omega
              subst eq
              go_wp2
              exact ⟨⟨k + 1, by omega, by go_num, hE⟩, by simp [intOf]; omega⟩
    · have ek : k = 10 := by omega
      have hkr : ¬ (k : Int) < 10 := by omega
      have hC : Hid (Cha w g h cg ch (turned 10 l0) l0 wr) := by rw [← ek]; exact hC.out
      clear ek hlt hk
      go_wp2
      go_loopw [12, 13] (fun v i wr => ∃ (k : Nat) (a' : Option Addr) (cap' : Nat), k ≤ 16 ∧ i = .int .i64 k ∧ v = .slice a' (4 * k) cap' ∧ 4 * k ≤ cap' ∧ (a' = none → cap' = 0) ∧ Hid (Byt wr a' (4 * k) (blkTo key ctr nonce k)) ∧ Hid (Cha w g h cg ch (turned 10 l0) l0 wr)) (fun _ i _ => 16 - (intOf i).toNat)
      case atStart =>
        refine ⟨0, some ⟨_, 0, none⟩, 0, by omega, rfl, rfl, (by omega), (by intro e; cases e), ⟨rfl, .inl rfl⟩, ?_⟩
        exact hC.out.grow ((Below.refl _ _).alloc (Nat.le_refl _) _)
      case round =>
        clear hC
        clear hkr
        obtain ⟨k, a', cap', hk, rfl, rfl, hkc, hnil, hBt, hC⟩ := hrel
        by_cases hlt : k < 16
        · obtain ⟨x, hx⟩ : ∃ x, at32 (turned 10 l0) k = x := ⟨_, rfl⟩
          obtain ⟨y, hy⟩ : ∃ y, at32 l0 k = y := ⟨_, rfl⟩
          have i1 : (k : Int) < 16 := by omega
          obtain ⟨n, hn⟩ : ∃ n, x.toNat + y.toNat = n := ⟨_, rfl⟩
          have hnlt : n < 8589934592 := by have := x.isLt; have := y.isLt; omega
          have HU : Hid (IntKind.u64.wrap ((x.toNat : Int) + (y.toNat : Int)) = (n : Int)) := by show _ = _; rw [IntKind.wrap_u64]; omega
          have HE : Hid (blkTo key ctr nonce (k + 1) = blkTo key ctr nonce k ++ putB 4 n false) := by
            show _ = _
            rw [blkTo, chaWord, HL0.out, hx, hy, ← leB4_add, hn]
            rfl
          obtain ⟨W, hW⟩ : ∃ W, wr.drew = W := ⟨_, rfl⟩
          have hgr : Below wr.heap.size wr W := by rw [← hW]; exact (Below.refl _ _).drew
          have HCW : Hid (Cha w g h cg ch (turned 10 l0) l0 W) := hC.out.grow hgr
          have HBW : Hid (Byt W a' (4 * k) (blkTo key ctr nonce k)) := hBt.out.later hgr
          have HW : Hid (wr.drew = W) := hW
          have hld1 : ∀ w', Grows W w' → w'.cell? ⟨g, k, none⟩ = some (.int .u64 (x.toNat : Int)) := fun w' hw' => by
            have := ((HCW.out.grow hw').now.word k hlt).1
            rwa [Nat.zero_add, hx] at this
          have hld2 : ∀ w', Grows W w' → w'.cell? ⟨h, k, none⟩ = some (.int .u64 (y.toNat : Int)) := fun w' hw' => by
            have := ((HCW.out.grow hw').was.word k hlt).1
            rwa [Nat.zero_add, hy] at this
          clear hC hBt hgr hW hx hy
          go_wp2
          refine wp_region_sched' (G := Grows) (by kernel_rfl) Grows.refl Grows.trans (by kernel_rfl) [(0, true), (1, true), (2, true), (3, true), (4, true), (5, true), (6, true), (7, true), (8, true), (9, true), (10, false), (11, true)] rfl (by kernel_rfl) ?_
          intro KK hKK
          rw [HW.out]
          iterate 10 (refine sched_take rfl (by rfl) (v := ?_) ?_ ?_; rotate_left; (intro w' hw'; have q1 := hld1 w' hw'; have q2 := hld2 w' hw'; go_simp; with_reducible rfl); go_simp)
          refine sched_call (f := 42) (args := #[.slice a' (4 * k) cap', .int .i64 4, .int .u64 (n : Int), .bool false]) rfl (by rfl) (by go_simp; rw [HU.out]) ?_
          refine (refPut_seg a' (4 * k) cap' 4 n (by omega) false _ _ (by omega) HBW.out hnil 4 (by decide)).mono ?_
          rintro e w8 ⟨a8, c8, rfl, hb8, hs8, _⟩
          have hB8 := Byt.ofSeg hs8
          have hkc8 : 4 * (k + 1) ≤ c8 := by rcases hs8.2 with ⟨_, h0, _⟩ | ⟨_, _, _, _, _, _, h0, _⟩ <;> omega
          clear hs8
          refine ⟨_, rfl, hb8, ?_⟩
          have HB8 : Hid (Byt w8 a8 (4 * (k + 1)) (blkTo key ctr nonce (k + 1))) := by rw [HE.out]; exact hB8
          have HC8 : Hid (Cha w g h cg ch (turned 10 l0) l0 w8) := HCW.out.grow hb8
          have hnil8 : a8 = none → c8 = 0 := by
            intro e
            rcases HB8.out.2 with h0 | ⟨b', off', e', _⟩
            · omega
            · rw [e] at e'; cases e'
          clear hB8 hb8 hld1 hld2
          go_simp
          iterate 1 (refine sched_take rfl (by rfl) (v := ?_) ?_ ?_; rotate_left; (intro w' hw'; go_simp; with_reducible rfl); go_simp)
          refine sched_done hKK ?_
          go_wp2
          exact ⟨⟨k + 1, a8, c8, by omega, by go_num, rfl, hkc8, hnil8, HB8, HC8⟩, by simp [intOf]; omega⟩
        · have ek : k = 16 := by omega
          subst ek
          go_wp2
          go_ret
          exact ⟨a', cap', rfl, hC.out.bel, hBt.out, hkc⟩
theorem refBlock_any (kb koff nb noff kc nc : Nat) (key nonce : List UInt8) (ctr : BitVec 32) (w : World) (hkc : 32 ≤ kc) (hnc : 12 ≤ nc) (hkm : kc ≤ 9223372036854775807) (hnm : nc ≤ 9223372036854775807)
    (hK : Byt w (some ⟨kb, koff, none⟩) 32 key) (hN : Byt w (some ⟨nb, noff, none⟩) 12 nonce) :
    Calls Tryd.prog 55 #[.slice (some ⟨kb, koff, none⟩) 32 kc, .int .u32 (ctr.toNat : Int), .slice (some ⟨nb, noff, none⟩) 12 nc] w fun e w' => ∃ a' cap', e = .returned (.slice a' 64 cap') ∧ Below w.heap.size w w' ∧ Byt w' a' 64 (blk key ctr nonce) :=
  (refBlock_cap kb koff nb noff kc nc key nonce ctr w hkc hnc hkm hnm hK hN).mono fun e w' h => by
    obtain ⟨a', cap', rfl, hb, hB, _⟩ := h
    exact ⟨a', cap', rfl, hb, hB⟩
end Go.Proofs.YtdancpcnjklifaaDoor

/- The walk over the document's stream. -/
namespace Go.Proofs.YtdancpcnjklifaaDoor
set_option linter.unusedVariables false
set_option maxRecDepth 100000
open Go.RowKit
theorem ctr_val (ctr : BitVec 32) (k n : Nat) (h : 64 * k = n) : ((ctr.toNat : Int) + (n : Int) / 64) % 4294967296 = ((ctr + BitVec.ofNat 32 k).toNat : Int) := by
  rw [BitVec.toNat_add, BitVec.toNat_ofNat]
  omega

set_option maxHeartbeats 2000000 in
set_option maxRecDepth 100000 in
theorem refStream_own (kb koff nb noff kc nc : Nat) (key nonce : List UInt8) (ctr : BitVec 32) (a : Option Addr) (len cap : Nat) (l : List UInt8) (w : World) (hkc : 32 ≤ kc) (hnc : 12 ≤ nc) (hkm : kc ≤ 9223372036854775807) (hnm : nc ≤ 9223372036854775807)
    (hK : Byt w (some ⟨kb, koff, none⟩) 32 key) (hN : Byt w (some ⟨nb, noff, none⟩) 12 nonce) (hB : Byt w a len l) (hlm : len ≤ 2000) (hlc : len ≤ cap) (hcm : cap ≤ maxLen) :
    Calls Tryd.prog 40 #[.slice (some ⟨kb, koff, none⟩) 32 kc, .int .u32 (ctr.toNat : Int), .slice (some ⟨nb, noff, none⟩) 12 nc, .slice a len cap] w fun e w' => ∃ v, e = .returned v ∧ Below w.heap.size w w' ∧ w'.ownsRow w.heap.size 5 1 v len ((stm key ctr nonce l).map bv) := by
  have hkb := hK.lt (by omega)
  have hnb := hN.lt (by omega)
  have hl := hB.1
  have hcm : cap ≤ 9223372036854775807 := by unfold maxLen at hcm; exact hcm
  have HK : Hid (Byt w (some ⟨kb, koff, none⟩) 32 key) := hK
  have HN : Hid (Byt w (some ⟨nb, noff, none⟩) 12 nonce) := hN
  have HB : Hid (Byt w a len l) := hB
  clear hK hN hB
  go_enter Tryd.func40, Tryd.ntmps40
  go_wp2
  go_loopw [9, 10] (fun v i wr => ∃ k n : Nat, n = min (64 * k) len ∧ 64 * k ≤ len + 63 ∧ i = .int .i64 ((64 * k : Nat) : Int) ∧ Hid (wr.ownsRow w.heap.size 5 1 v n ((stm key ctr nonce (l.take n)).map bv)) ∧ Hid (Below w.heap.size w wr)) (fun _ i _ => 3000 - (intOf i).toNat)
  case atStart =>
    refine ⟨0, 0, by omega, by omega, rfl, ?_, (Below.refl _ _).alloc (Nat.le_refl _) _⟩
    exact World.ownsRow_made w #[] 0 (Nat.le_refl _) (Nat.zero_le _) rfl
  case round =>
    obtain ⟨k, n, hn, hk, rfl, hO, hW⟩ := hrel
    obtain ⟨p, hp⟩ : ∃ p, 64 * k = p := ⟨_, rfl⟩
    rw [hp] at hn hk ⊢
    by_cases hlt : p < len
    · have en : n = p := by omega
      subst en
      clear hn
      have i1 : (n : Int) < (len : Int) := by omega
      have HCt : Hid (((ctr.toNat : Int) + (n : Int) / 64) % 4294967296 = ((ctr + BitVec.ofNat 32 k).toNat : Int)) := ctr_val ctr k n hp
      obtain ⟨q, hq⟩ : ∃ q, q = min (n + 64) len := ⟨_, rfl⟩
      have hq1 : n < q := by omega
      have hq2 : q ≤ len := by omega
      have hq3 : q - n ≤ 64 := by omega
      have hmin : (if (len : Int) < (n : Int) + 64 then (len : Int) else (n : Int) + 64) = (q : Int) := by split <;> omega
      have HST : Hid (stm key ctr nonce (l.take q) = stm key ctr nonce (l.take n) ++ xorB ((l.drop n).take (q - n)) (blk key (ctr + BitVec.ofNat 32 k) nonce)) := by
        have e := stm_step key ctr nonce l k (by omega)
        rw [hp, hl, ← hq, show min 64 (len - n) = q - n by omega, stm_one key (ctr + BitVec.ofNat 32 k) nonce ((l.drop n).take (q - n)) (by simp; omega)] at e
        exact e
      have HQ : Hid (q = min (64 * (k + 1)) len) := by show _ = _; omega
      clear hq
      obtain ⟨ba, offa, rfl⟩ : ∃ ba offa, a = some ⟨ba, offa, none⟩ := by
        rcases HB.out.2 with h0 | ⟨b', off', e, _⟩
        · omega
        · exact ⟨b', off', e⟩
      have hba := HB.out.lt (by omega)
      have i2 : (n : Int) ≤ (q : Int) := by omega
      have i3 : (q : Int) ≤ (cap : Int) := by omega
      go_wp2_with fail
      rw [HCt.out]
      refine (refBlock_any kb koff nb noff kc nc key nonce (ctr + BitVec.ofNat 32 k) _ hkc hnc hkm hnm (HK.out.below hkb hW.out) (HN.out.below hnb hW.out)).mono ?_
      rintro e w1 ⟨a1, c1, rfl, hb1, hB1⟩
      have HB1 : Hid (Byt w1 a1 64 (blk key (ctr + BitVec.ofNat 32 k) nonce)) := hB1
      have hW1 : Hid (Below w.heap.size w w1) := hW.out.trans (hb1.mono hW.out.size)
      clear hB1
      go_wp2_with fail
      refine (refXor_any (some ⟨ba, offa + n, none⟩) a1 (q - n) (cap - n) 64 c1 _ _ _ ((HB.out.below hba hW1.out).sub (by omega) hq2) HB1.out (by omega) (by omega)).mono ?_
      rintro e w2 ⟨a2, c2, rfl, hb2, hB2⟩
      rw [Nat.min_eq_left hq3] at hB2
      obtain ⟨b2, o2, rfl⟩ : ∃ b2 o2, a2 = some ⟨b2, o2, none⟩ := by
        rcases hB2.2 with h0 | ⟨b', off', e, _⟩
        · omega
        · exact ⟨b', off', e⟩
      have hW2 : Hid (Below w.heap.size w w2) := hW1.out.trans (hb2.mono hW1.out.size)
      have hO2 := (hO.out.kept (grown_below hb1) (by
        rcases h : Value.ownBlock u9 with _ | j
        · exact .inl rfl
        · exact .inr (by simp))).kept (grown_below hb2) (by
        rcases h : Value.ownBlock u9 with _ | j
        · exact .inl rfl
        · exact .inr (by simp))
      obtain ⟨v3, w3, hap3, own3, hg3⟩ := append_bytes w2 w.heap.size _ n _ hO2 ⟨b2, o2, none⟩ (q - n) c2 _ hB2 hW2.out.size (by omega)
      rw [← HST.out, show n + (q - n) = q by omega] at own3
      have HO3 : Hid (w3.ownsRow w.heap.size 5 1 v3 q ((stm key ctr nonce (l.take q)).map bv)) := own3
      have hW3 : Hid (Below w.heap.size w w3) := hW2.out.grown hg3 hW2.out.size (fun j hj => (hO2.lt j hj).1)
      have HA3 : Hid (_) := hap3
      clear hap3 own3 hg3 hO2 hB2 hb2 hb1
      rw [Nat.min_eq_left hq3]
      go_wp2_with (at_builtin; refine wpList_append_run rfl (.tmp 27) (.tmp 37) 29 rfl _ _ _ _ rfl rfl HA3.out ?_)
      exact ⟨⟨k + 1, q, HQ.out, by omega, by go_num, HO3, hW3⟩, by simp [intOf]; omega⟩
    · have en : n = len := by omega
      subst en
      clear hn
      have i1 : ¬ (p : Int) < (n : Int) := by omega
      have HF : Hid (l.take n = l) := List.take_of_length_le (by omega)
      rw [HF.out] at hO
      go_wp2
      go_ret
      exact ⟨_, rfl, hW.out, hO.out⟩
theorem refStream_any (kb koff nb noff kc nc : Nat) (key nonce : List UInt8) (ctr : BitVec 32) (a : Option Addr) (len cap : Nat) (l : List UInt8) (w : World) (hkc : 32 ≤ kc) (hnc : 12 ≤ nc) (hkm : kc ≤ 9223372036854775807) (hnm : nc ≤ 9223372036854775807)
    (hK : Byt w (some ⟨kb, koff, none⟩) 32 key) (hN : Byt w (some ⟨nb, noff, none⟩) 12 nonce) (hB : Byt w a len l) (hlm : len ≤ 2000) (hlc : len ≤ cap) (hcm : cap ≤ maxLen) :
    Calls Tryd.prog 40 #[.slice (some ⟨kb, koff, none⟩) 32 kc, .int .u32 (ctr.toNat : Int), .slice (some ⟨nb, noff, none⟩) 12 nc, .slice a len cap] w fun e w' => ∃ a' cap', e = .returned (.slice a' len cap') ∧ Below w.heap.size w w' ∧ Byt w' a' len (stm key ctr nonce l) :=
  (refStream_own kb koff nb noff kc nc key nonce ctr a len cap l w hkc hnc hkm hnm hK hN hB hlm hlc hcm).mono fun e w' h => by
    obtain ⟨v, rfl, hb, ho⟩ := h
    obtain ⟨a', cap', rfl, hs, _⟩ := Seg.ofOwn' ho
    exact ⟨a', cap', rfl, hb, Byt.ofSeg hs⟩
end Go.Proofs.YtdancpcnjklifaaDoor
