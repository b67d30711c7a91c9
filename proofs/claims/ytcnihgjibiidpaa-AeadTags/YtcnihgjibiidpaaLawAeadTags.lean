/- AeadTags: another tag is refused, whatever it is. For every key, nonce, two rows of bytes, place and change, without a condition. -/
import Derived.Test.YtcnihgjibiidpaaAeadShown
namespace Go.Proofs.Ytcnihgjibiidpaa.aeadTags
open Go.ChangeShapes Go.WideShapes Go.ChangeAt Go.RowKit
set_option linter.unusedVariables false
/-- One byte of the tag as another one: it is not the tag. -/
theorem changed_no (key nonce ad b : List UInt8) (k : Nat) (x : UInt8) (h1 : b.length ≤ k) (h2 : k < b.length + 16) (hx : x ≠ at8 (sealB key nonce ad b) k) : ¬ Sealed key nonce ad ((sealB key nonce ad b).set k x) := by
  intro hs
  have hl := sealB_length key nonce ad b
  have h3 := hs.2
  rw [List.length_set, hl, Nat.add_sub_cancel, List.take_set_of_le h1, sealB_take] at h3
  have h4 : at8 (((sealB key nonce ad b).set k x).drop b.length) (k - b.length) = at8 (aeadTag key nonce ad (stm key 1#32 nonce b)) (k - b.length) := by rw [h3]
  rw [← sealB_drop] at h4
  have e1 : ∀ L : List UInt8, at8 (L.drop b.length) (k - b.length) = at8 L k := fun L => by
    simp [at8, show b.length + (k - b.length) = k by omega]
  rw [e1, e1] at h4
  have e2 : at8 ((sealB key nonce ad b).set k x) k = x := by simp [at8, show k < (sealB key nonce ad b).length by omega]
  rw [e2] at h4
  exact hx h4
theorem xor_ne (x y : UInt8) (h : y ≠ 0) : x ^^^ y ≠ x := by
  intro e
  apply h
  have h2 : x ^^^ (x ^^^ y) = x ^^^ x := by rw [e]
  rwa [← UInt8.xor_assoc, UInt8.xor_self, UInt8.zero_xor] at h2
theorem u8_of (a : Int) (h : (Lit.int .u8 a).wf = true) : ∃ y : UInt8, a = (y.toNat : Int) := by
  have hb : 0 ≤ a ∧ a ≤ 255 := by simpa [Lit.wf, IntKind.min, IntKind.max, IntKind.signed, IntKind.bits] using h
  exact ⟨UInt8.ofNat a.toNat, by rw [UInt8.toNat_ofNat']; omega⟩
theorem and15 (x : Int) : ∃ q : Nat, bits .and .i64 x 15 = (q : Int) ∧ q < 16 := by
  have e : (BitVec.ofInt 64 x &&& BitVec.ofInt 64 15).toNat = (x % 16).toNat := by
    rw [BitVec.toNat_and, BitVec.toNat_ofInt]
    have h7 : (BitVec.ofInt 64 15).toNat = 2 ^ 4 - 1 := by decide
    rw [h7, Nat.and_two_pow_sub_one_eq_mod]
    omega
  refine ⟨(x % 16).toNat, ?_, by omega⟩
  show IntKind.i64.wrap ((BitVec.ofInt 64 x &&& BitVec.ofInt 64 15).toNat : Int) = _
  rw [e, IntKind.wrap_i64]
  omega

set_option maxHeartbeats 4000000 in
set_option maxRecDepth 100000 in
theorem walk (l0 : List UInt8) (l1 : List UInt8) (a2 : Option Addr) (len2 cap2 : Nat) (z2 : List Int) (a3 : Option Addr) (len3 cap3 : Nat) (z3 : List Int) (a4 : Int) (a5 : Int) (w : World) (w0 : l0.length = 32) (w1 : l1.length = 12) (w2 : IsRow .u8 w a2 len2 cap2 z2) (w3 : IsRow .u8 w a3 len3 cap3 z3) (w4 : (Lit.int .i64 a4).wf = true) (w5 : (Lit.int .u8 a5).wf = true) :
    Calls Try.prog 10 #[.agg (l0.map bv).toArray, .agg (l1.map bv).toArray, .slice a2 len2 cap2, .slice a3 len3 cap3, .int .i64 a4, .int .u8 a5] w fun e w' => e = .returned (.bool true) ∧ Below w.heap.size w w' := by
  obtain ⟨y, rfl⟩ := u8_of a5 w5
  obtain ⟨q, hq, hqb⟩ := and15 a4
  clear w4 w5
  have hnil2 := row_nil w2
  obtain ⟨ad, la, hnE20, hn1a, hn2a, hnca, hncma, hBma⟩ := cut_row w2 200
  have hnEa : (if (200 : Int) < (len2 : Int) then (200 : Int) else (len2 : Int)) = (la : Int) := hnE20
  have hlma := hBma.1
  have HB0a : Hid (Byt w a2 la ad) := hBma
  clear hnE20 w2 hBma
  have hnil3 := row_nil w3
  obtain ⟨m, n, hnE30, hn1b, hn2b, hncb, hncmb, hBmb⟩ := cut_row w3 200
  have hnEb : (if (200 : Int) < (len3 : Int) then (200 : Int) else (len3 : Int)) = (n : Int) := hnE30
  have hlmb := hBmb.1
  have HB0b : Hid (Byt w a3 n m) := hBmb
  clear hnE30 w3 hBmb
  have IK : (Try.prog.info? 23).map (·.size) = some 32 := by kernel_rfl
  have hIK : Hid ((Try.prog.info? 23).map (·.size) = some (l0.map bv).toArray.size) := info_size IK l0 w0
  have II : (Try.prog.info? 40).map (·.size) = some 12 := by kernel_rfl
  have hII : Hid ((Try.prog.info? 40).map (·.size) = some (l1.map bv).toArray.size) := info_size II l1 w1
  clear IK II
  go_enter Try.func10, Try.ntmps10
  go_wp2_with fail
  refine (aeadShown_any _).mono ?_
  rintro e w4 ⟨rfl, hb4⟩
  have hbel0 : Below w.heap.size w ((w.alloc (.cells (l0.map bv).toArray 23)).alloc (.cells (l1.map bv).toArray 40)) := ((Below.refl _ _).alloc (Nat.le_refl _) _).alloc (by simp) _
  have HK4 : Hid (Arr w4 w.heap.size 23 l0) := ((Arr.new w _ l0).later ((Below.refl _ _).alloc (Nat.le_refl _) _)).later hb4
  have HI4 : Hid (Arr w4 (w.heap.size + 1) 40 l1) := by
    have := Arr.new (w.alloc (.cells (l0.map bv).toArray 23)) 40 l1
    rw [World.size_alloc] at this
    exact this.later hb4
  have HW4 : Hid (Below w.heap.size w w4) := hbel0.trans (hb4.mono hbel0.size)
  clear hb4 hbel0
  go_wp2_with (first | refine wpList_load_row rfl 23 _ rfl w.heap.size rfl 23 _ (0, 0) _ HK4.out Try.underlying23 rfl hIK.out ?_ | refine wpList_load_row rfl 40 _ rfl (w.heap.size + 1) rfl 40 _ (0, 0) _ HI4.out Try.underlying40 rfl hII.out ?_)
  refine (seal_any l0 l1 a2 la cap2 ad a3 n cap3 m _ w0 w1 (HB0a.out.later HW4.out) hnil2 (by omega) (by omega) hncma (HB0b.out.later HW4.out) hnil3 (by omega) (by omega) hncmb).mono ?_
  rintro e w5 ⟨v5, rfl, hb5, own5⟩
  obtain ⟨g, c5, rfl, hbg, _⟩ := Seg.ofOwn own5 (by omega)
  obtain ⟨_, _, e5, _, hc5, hm5, _⟩ := own_parts own5
  cases e5
  have hsl := sealB_length l0 l1 ad m
  rw [hlmb] at hsl
  obtain ⟨k, hk⟩ : ∃ k, n + q = k := ⟨_, rfl⟩
  obtain ⟨X, hX⟩ : ∃ X, sealB l0 l1 ad m = X := ⟨_, rfl⟩
  rw [hX] at own5 hsl
  have hx := (at8 X k).toNat_lt
  have hcell : w5.cell? ⟨g, k, none⟩ = some (.int .u8 ((at8 X k).toNat : Int)) := by
    rw [own5.cellAt k (by omega), List.getElem?_map, List.getElem?_eq_getElem (by omega), at8_get X k (by omega)]
    rfl
  have hf := own5.frozenAt k
  have HXv : Hid (bits .xor .u8 ((at8 X k).toNat : Int) (y.toNat : Int) = ((at8 X k ^^^ y).toNat : Int)) := xor_val8 _ _
  have HO6 : Hid ((w5.setCell ⟨g, k, none⟩ (.int .u8 ((at8 X k ^^^ y).toNat : Int))).ownsRow w4.heap.size 5 1 (.slice (some ⟨g, 0, none⟩) (n + 16) c5) (n + 16) ((X.set k (at8 X k ^^^ y)).map bv)) := by
    rw [List.map_set]
    exact (own5.stored k _).1
  have hgl : w4.heap.size ≤ g := hbg
  have hkl := HK4.out.lt
  have hil := HI4.out.lt
  have HK6 : Hid (Arr (w5.setCell ⟨g, k, none⟩ (.int .u8 ((at8 X k ^^^ y).toNat : Int))) w.heap.size 23 l0) := (HK4.out.later hb5).other (by omega) _ _
  have HI6 : Hid (Arr (w5.setCell ⟨g, k, none⟩ (.int .u8 ((at8 X k ^^^ y).toNat : Int))) (w.heap.size + 1) 40 l1) := (HI4.out.later hb5).other (by omega) _ _
  have HW6 : Hid (Below w.heap.size w (w5.setCell ⟨g, k, none⟩ (.int .u8 ((at8 X k ^^^ y).toNat : Int)))) := (HW4.out.trans (hb5.mono HW4.out.size)).setCell (by have := HW4.out.size; show _ ≤ g; omega) _
  have e16 : (n : Int) + 16 = ((n + 16 : Nat) : Int) := by omega
  obtain ⟨N, hN⟩ : ∃ N, n + 16 = N := ⟨_, rfl⟩
  rw [hN] at e16 HO6 hc5 ⊢
  have ek : (n : Int) + (q : Int) = (k : Int) := by omega
  have hkN : (k : Int) < (N : Int) := by omega
  have HXe : Hid (sealB l0 l1 ad m = X) := hX
  have Hm5 : Hid (c5 ≤ maxLen) := hm5
  have hNb : N ≤ 1000 := by omega
  have Hk1 : Hid (n ≤ k ∧ k < n + 16) := ⟨by omega, by omega⟩
  have HN : Hid (n + 16 = N) := hN
  clear hb5 own5 hm5 HK4 HI4 HW4 hX hk hN hkl hil hsl
  obtain ⟨W6, hW6⟩ : ∃ W6, w5.setCell ⟨g, k, none⟩ (.int .u8 ((at8 X k ^^^ y).toNat : Int)) = W6 := ⟨_, rfl⟩
  rw [hW6] at HO6 HK6 HI6 HW6
  have hW6' : w5.setCell ⟨g, k, none⟩ (.int .u8 (bits .xor .u8 ((at8 X k).toNat : Int) (y.toNat : Int))) = W6 := by rw [HXv.out]; exact hW6
  clear hW6
  have HBx : Hid (Byt W6 (some ⟨g, 0, none⟩) N (X.set k (at8 X k ^^^ y))) := Byt.ofOwn HO6.out
  clear HO6
  go_wp2_with (first | refine wpList_load_row rfl 23 _ rfl w.heap.size rfl 23 _ (0, 0) _ HK6.out Try.underlying23 rfl hIK.out ?_ | refine wpList_load_row rfl 40 _ rfl (w.heap.size + 1) rfl 40 _ (0, 0) _ HI6.out Try.underlying40 rfl hII.out ?_)
  by_cases hy : y = 0
  · have e1 : X.set k (at8 X k ^^^ y) = X := by
      rw [hy, UInt8.xor_zero]
      apply List.ext_getElem
      · simp
      · intro i h1 h2
        rw [List.getElem_set]
        by_cases e : k = i
        · subst e; rw [if_pos rfl, at8_get X k h2]
        · rw [if_neg e]
    rw [e1] at HBx
    refine (open_yes l0 l1 a2 la cap2 ad (some ⟨g, 0, none⟩) N c5 X _ w0 w1 (HB0a.out.later HW6.out) hnil2 (by omega) (by omega) hncma HBx.out (by intro e; cases e) (by omega) hc5 Hm5.out (by rw [← HXe.out]; exact sealed_seal l0 l1 ad m)).mono ?_
    rintro e w7 ⟨a7, c7, rfl, hb7, hB7⟩
    rw [← HN.out, Nat.add_sub_cancel] at hB7 ⊢
    rw [← HXe.out, open_seal] at hB7
    have HW7 : Hid (Below w.heap.size w w7) := HW6.out.trans (hb7.mono HW6.out.size)
    have q1 := conv_bytes w7 a7 n c7 m hB7
    have q2 := conv_bytes w7 a3 n cap3 m (HB0b.out.later HW7.out)
    have hSm := S_beq m m
    have hy0 : (y.toNat : Int) = 0 := by rw [hy]; rfl
    clear hb7 hB7 HBx HW6 HK6 HI6 hW6' e1
    go_wp2
    go_ret
    exact ⟨rfl, HW7.out⟩
  · refine (open_no l0 l1 a2 la cap2 ad (some ⟨g, 0, none⟩) N c5 _ _ w0 w1 (HB0a.out.later HW6.out) hnil2 (by omega) (by omega) hncma HBx.out (by intro e; cases e) (by omega) hc5 Hm5.out (by rw [← HXe.out]; exact changed_no l0 l1 ad m k _ (by have := Hk1.out.1; omega) (by have := Hk1.out.2; omega) (xor_ne _ _ hy))).mono ?_
    rintro e w7 ⟨a7, c7, rfl, hb7⟩
    have HW7 : Hid (Below w.heap.size w w7) := HW6.out.trans (hb7.mono HW6.out.size)
    have hy0 : ¬ (y.toNat : Int) = 0 := fun h => hy (UInt8.toNat_inj.1 (by have : y.toNat = 0 := by omega
                                                                           rw [this]; rfl))
    clear hb7 HBx HW6 HK6 HI6 hW6'
    go_wp2
    go_ret
    exact ⟨rfl, HW7.out⟩
end Go.Proofs.Ytcnihgjibiidpaa.aeadTags
