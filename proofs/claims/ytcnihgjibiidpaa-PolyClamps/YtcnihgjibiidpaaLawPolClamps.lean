/- PolyClamps: bits of the key that do not count do not count. For every key, row of bytes and change, without a condition. -/
import Derived.Test.YtcnihgjibiidpaaPolShown
namespace Go.Proofs.Ytcnihgjibiidpaa.polyClamps
open Go.ChangeShapes Go.WideShapes Go.ChangeAt Go.RowKit
set_option linter.unusedVariables false

/-- Two keys that differ in bits alone that do not count. -/
structure Like (k l : List UInt8) : Prop where
  len : k.length = 32
  head : ∀ i, i < 16 → clamp1 i (at8 k i) = clamp1 i (at8 l i)
  tail : ∀ i, 16 ≤ i → at8 k i = at8 l i
theorem Like.tag_eq {k l : List UInt8} (h : Like k l) (hl : l.length = 32) (b : List UInt8) : tag k b = tag l b := by
  have e1 : clampB k = clampB l := by
    apply List.ext_getElem
    · rw [clampB_length, clampB_length]
    · intro i h1 h2
      rw [clampB_length] at h1
      rw [← at8_get, ← at8_get, clampB_at k i h1, clampB_at l i h1]
      exact h.head i h1
  have e2 : cutB k 16 16 = cutB l 16 16 := by
    have hk := h.len
    apply List.ext_getElem
    · simp [cutB, hk, hl]
    · intro i h1 h2
      have hi : i < 16 := by simp [cutB, hk] at h1; omega
      rw [← at8_get, ← at8_get, cutB_at k 16 16 i hi, cutB_at l 16 16 i hi]
      exact h.tail _ (by omega)
  unfold tag polyR polyS
  rw [e1, e2]
theorem xor_low (x y : UInt8) (h : y.toNat % 16 = 0) : (x ^^^ y).toNat % 16 = x.toNat % 16 := by
  rw [UInt8.toNat_xor, show (16 : Nat) = 2 ^ 4 from rfl, Nat.xor_mod_two_pow, show y.toNat % 2 ^ 4 = 0 from h, Nat.xor_zero]
theorem xor_high (x y : UInt8) (h : y.toNat < 4) : (x ^^^ y).toNat / 4 = x.toNat / 4 := by
  rw [UInt8.toNat_xor, show (4 : Nat) = 2 ^ 2 from rfl, ← Nat.shiftRight_eq_div_pow, ← Nat.shiftRight_eq_div_pow, Nat.shiftRight_xor_distrib]
  rw [Nat.shiftRight_eq_div_pow y.toNat 2, Nat.div_eq_of_lt (show y.toNat < 2 ^ 2 from h), Nat.xor_zero]
theorem Like.set {k l : List UInt8} (h : Like k l) (i : Nat) (hi : i < 16) (x : UInt8) (hx : clamp1 i x = clamp1 i (at8 k i)) : Like (k.set i x) l := by
  have hk := h.len
  refine ⟨by rw [List.length_set]; exact hk, fun j hj => ?_, fun j hj => ?_⟩
  · by_cases e : i = j
    · subst e
      have e1 : at8 (k.set i x) i = x := by simp [at8, show i < k.length by omega]
      rw [e1, hx]
      exact h.head i hj
    · have e1 : at8 (k.set i x) j = at8 k j := by simp [at8, List.getElem?_set_ne e]
      rw [e1]
      exact h.head j hj
  · have e1 : at8 (k.set i x) j = at8 k j := by simp [at8, List.getElem?_set_ne (show i ≠ j by omega)]
    rw [e1]
    exact h.tail j hj
theorem Like.low {k l : List UInt8} (h : Like k l) (i : Nat) (hi : i < 16) (h3 : i % 4 = 3) (y : UInt8) (hy : y.toNat % 16 = 0) : Like (k.set i (at8 k i ^^^ y)) l :=
  h.set i hi _ (by unfold clamp1; rw [if_pos h3, if_pos h3, xor_low _ _ hy])
theorem Like.high {k l : List UInt8} (h : Like k l) (i : Nat) (hi : i < 16) (h3 : i % 4 = 0) (h0 : i ≠ 0) (y : UInt8) (hy : y.toNat < 4) : Like (k.set i (at8 k i ^^^ y)) l :=
  h.set i hi _ (by unfold clamp1; rw [if_neg (by omega), if_pos ⟨h3, h0⟩, if_neg (by omega), if_pos ⟨h3, h0⟩, xor_high _ _ hy])

set_option maxHeartbeats 2000000 in
set_option maxRecDepth 100000 in
theorem walk (l0 : List UInt8) (a1 : Option Addr) (len1 cap1 : Nat) (z1 : List Int) (a2 : Int) (w : World) (w0 : l0.length = 32) (w1 : IsRow .u8 w a1 len1 cap1 z1) (w2 : (Lit.int .u32 a2).wf = true) :
    Calls Try.prog 4 #[.agg (l0.map bv).toArray, .slice a1 len1 cap1, .int .u32 a2] w fun e w' => e = .returned (.bool true) ∧ Below w.heap.size w w' := by
  obtain ⟨X, rfl⟩ := u32_word a2 w2
  obtain ⟨c0, hc0, hc0b⟩ : ∃ c : Nat, (X.toNat : Int) = (c : Int) ∧ c < 4294967296 := ⟨X.toNat, rfl, X.isLt⟩
  rw [hc0]
  clear hc0 w2
  obtain ⟨m, n, hnE0, hn1, hn2, hnc, hncm, hBm⟩ := cut_row w1 200
  have hnE : (if (200 : Int) < (len1 : Int) then (200 : Int) else (len1 : Int)) = (n : Int) := hnE0
  have hlm := hBm.1
  clear hnE0 w1
  have HB0 : Hid (Byt w a1 n m) := hBm
  clear hBm
  have IK : (Try.prog.info? 23).map (·.size) = some 32 := by kernel_rfl
  have hIK : Hid ((Try.prog.info? 23).map (·.size) = some 32) := IK
  have IT : (Try.prog.info? 26).map (·.size) = some 16 := by kernel_rfl
  have hIT : Hid ((Try.prog.info? 26).map (·.size) = some 16) := IT
  clear IK IT
  go_enter Try.func4, Try.ntmps4
  go_wp2_with fail
  refine (polShown_any _).mono ?_
  rintro e w4 ⟨rfl, hb4⟩
  have HK4 : Hid (Arr w4 w.heap.size 23 l0) := (Arr.new w _ l0).later hb4
  have hbel0 : Below w.heap.size w (w.alloc (.cells (l0.map bv).toArray 23)) := (Below.refl _ _).alloc (Nat.le_refl _) _
  have HW4 : Hid (Below w.heap.size w w4) := hbel0.trans (hb4.mono hbel0.size)
  have HB4 : Hid (Byt w4 a1 n m) := HB0.out.later HW4.out
  clear hb4 hbel0
  go_wp2_with (first | refine wpList_load_row rfl 23 _ rfl w.heap.size rfl 23 _ (0, 0) _ HK4.out Try.underlying23 rfl (info_size hIK.out _ w0) ?_)
  refine (sum_any l0 a1 n cap1 m _ w0 HB4.out (by omega) (by omega) hncm).mono ?_
  rintro e w5 ⟨rfl, hb5⟩
  have hB := tag_length l0 m
  obtain ⟨B, hBe⟩ : ∃ B, tag l0 m = B := ⟨_, rfl⟩
  rw [hBe] at hB ⊢
  have HBe : Hid (tag l0 m = B) := hBe
  have hst := run_store_arr w5 26 B 16 hB (by kernel_rfl)
  obtain ⟨W5, hW5⟩ : ∃ W5, w5.alloc (.cells (B.map bv).toArray 26) = W5 := ⟨_, rfl⟩
  have hgr5 : Below w4.heap.size w4 W5 := by rw [← hW5]; exact hb5.alloc hb5.size _
  have hX5 : Arr W5 w5.heap.size 26 B := by rw [← hW5]; exact Arr.new w5 _ _
  have hxne : w.heap.size < w5.heap.size := Nat.lt_of_lt_of_le HK4.out.lt hb5.size
  have HK5 : Hid (Arr W5 w.heap.size 23 l0) := HK4.out.later hgr5
  have HW5 : Hid (Below w.heap.size w W5) := HW4.out.trans (hgr5.mono HW4.out.size)
  have HL0 : Hid (Like l0 l0) := ⟨w0, fun _ _ => rfl, fun _ _ => rfl⟩
  rw [hW5] at hst
  have HX5 : Hid (Arr W5 w5.heap.size 26 B) := hX5
  clear hb5 hBe hgr5 HK4 HW4 HB4 hW5 hX5
  go_wp2
  clear hst
  generalize w5.heap.size = xb at HX5 hxne ⊢
  go_loopw [2, 9] (fun cv i wr => ∃ (j c : Nat) (K : List UInt8), j ≤ 4 ∧ c < 4294967296 ∧ cv = .int .u32 (c : Int) ∧ i = .int .i64 ((3 + 4 * j : Nat) : Int) ∧ Hid (Like K l0) ∧ Hid (Arr wr w.heap.size 23 K) ∧ Hid (Arr wr xb 26 B) ∧ Hid (Below w.heap.size w wr)) (fun _ i _ => 20 - (intOf i).toNat)
  case atStart => exact ⟨0, c0, l0, by omega, hc0b, rfl, rfl, HL0, HK5, HX5, HW5⟩
  case round =>
    clear HL0 HK5 HX5 HW5
    obtain ⟨j, c, K, hj, hcb, rfl, rfl, hL, hK, hX, hW⟩ := hrel
    obtain ⟨p, hp⟩ : ∃ p, 3 + 4 * j = p := ⟨_, rfl⟩
    rw [hp]
    by_cases hlt : j < 4
    · have hp16 : (p : Int) < 16 := by omega
      have hp32 : (p : Int) < 32 := by omega
      obtain ⟨hc, hf⟩ := hK.out.at_ p (by rw [hL.out.len]; omega)
      obtain ⟨y, hy⟩ : ∃ y : UInt8, y = UInt8.ofNat (c % 256 * 16 % 256) := ⟨_, rfl⟩
      have hyv : y.toNat = c % 256 * 16 % 256 := by rw [hy, UInt8.toNat_ofNat']; omega
      have hyi : (c : Int) % 256 * 16 % 256 = (y.toNat : Int) := by rw [hyv]; omega
      have HXv : Hid (bits .xor .u8 ((at8 K p).toNat : Int) (y.toNat : Int) = ((at8 K p ^^^ y).toNat : Int)) := xor_val8 _ _
      have HL2 : Hid (Like (K.set p (at8 K p ^^^ y)) l0) := hL.out.low p (by omega) (by omega) y (by rw [hyv]; omega)
      have HK2 : Hid (Arr (wr.setCell ⟨w.heap.size, p, none⟩ (.int .u8 ((at8 K p ^^^ y).toNat : Int))) w.heap.size 23 (K.set p (at8 K p ^^^ y))) := hK.out.set p _
      have HX2 : Hid (Arr (wr.setCell ⟨w.heap.size, p, none⟩ (.int .u8 ((at8 K p ^^^ y).toNat : Int))) xb 26 B) := hX.out.other (by omega) _ _
      have HW2 : Hid (Below w.heap.size w (wr.setCell ⟨w.heap.size, p, none⟩ (.int .u8 ((at8 K p ^^^ y).toNat : Int)))) := hW.out.setCell (Nat.le_refl _) _
      clear hy hL hK hX hW hyv
      go_wp2
      rw [HXv.out]
      exact ⟨⟨j + 1, c / 16, _, by omega, by omega, by go_num, by go_num, HL2, HK2, HX2, HW2⟩, by simp [intOf]; omega⟩
    · have hp16 : ¬ (p : Int) < 16 := by omega
      clear hlt hj hp
      go_wp2
      go_loopw [2, 10] (fun cv i wr => ∃ (j c : Nat) (K : List UInt8), j ≤ 3 ∧ c < 4294967296 ∧ cv = .int .u32 (c : Int) ∧ i = .int .i64 ((4 + 4 * j : Nat) : Int) ∧ Hid (Like K l0) ∧ Hid (Arr wr w.heap.size 23 K) ∧ Hid (Arr wr xb 26 B) ∧ Hid (Below w.heap.size w wr)) (fun _ i _ => 20 - (intOf i).toNat)
      case atStart => exact ⟨0, c, K, by omega, hcb, rfl, rfl, hL, hK, hX, hW⟩
      case round =>
        clear hL hK hX hW hp16 hcb
        obtain ⟨j, c, K, hj, hcb, rfl, rfl, hL, hK, hX, hW⟩ := hrel
        obtain ⟨p, hp⟩ : ∃ p, 4 + 4 * j = p := ⟨_, rfl⟩
        rw [hp]
        by_cases hlt : j < 3
        · have hp16 : (p : Int) < 16 := by omega
          have hp32 : (p : Int) < 32 := by omega
          obtain ⟨hc, hf⟩ := hK.out.at_ p (by rw [hL.out.len]; omega)
          have hand : bits .and .u8 ((c : Int) % 256) 3 = ((c % 4 : Nat) : Int) := by
            have h1 := u8_and_nat (c % 256) 3 (by omega) (by omega)
            have h2 : c % 256 &&& 3 = c % 4 := by
              rw [show (3 : Nat) = 2 ^ 2 - 1 from rfl, Nat.and_two_pow_sub_one_eq_mod]; omega
            rw [h2] at h1
            exact h1
          obtain ⟨y, hy⟩ : ∃ y : UInt8, y = UInt8.ofNat (c % 4) := ⟨_, rfl⟩
          have hyv : y.toNat = c % 4 := by rw [hy, UInt8.toNat_ofNat']; omega
          have hyi : bits .and .u8 ((c : Int) % 256) 3 = (y.toNat : Int) := by rw [hyv]; exact hand
          have HXv : Hid (bits .xor .u8 ((at8 K p).toNat : Int) (y.toNat : Int) = ((at8 K p ^^^ y).toNat : Int)) := xor_val8 _ _
          have HL2 : Hid (Like (K.set p (at8 K p ^^^ y)) l0) := hL.out.high p (by omega) (by omega) (by omega) y (by rw [hyv]; omega)
          have HK2 : Hid (Arr (wr.setCell ⟨w.heap.size, p, none⟩ (.int .u8 ((at8 K p ^^^ y).toNat : Int))) w.heap.size 23 (K.set p (at8 K p ^^^ y))) := hK.out.set p _
          have HX2 : Hid (Arr (wr.setCell ⟨w.heap.size, p, none⟩ (.int .u8 ((at8 K p ^^^ y).toNat : Int))) xb 26 B) := hX.out.other (by omega) _ _
          have HW2 : Hid (Below w.heap.size w (wr.setCell ⟨w.heap.size, p, none⟩ (.int .u8 ((at8 K p ^^^ y).toNat : Int)))) := hW.out.setCell (Nat.le_refl _) _
          clear hy hL hK hX hW hyv hand
          go_wp2
          rw [HXv.out]
          exact ⟨⟨j + 1, c / 4, _, by omega, by omega, by go_num, by go_num, HL2, HK2, HX2, HW2⟩, by simp [intOf]; omega⟩
        · have hp16 : ¬ (p : Int) < 16 := by omega
          have HKl : Hid (K.length = 32) := hL.out.len
          have HT : Hid (tag K m = B) := by rw [hL.out.tag_eq w0]; exact HBe.out
          have hdr : Below wr.heap.size wr wr.drew := (Below.refl _ _).drew
          have HK2 : Hid (Arr wr.drew w.heap.size 23 K) := hK.out.later hdr
          have HX2 : Hid (Arr wr.drew xb 26 B) := hX.out.later hdr
          have HW2 : Hid (Below w.heap.size w wr.drew) := hW.out.drew
          have HB2 : Hid (Byt wr.drew a1 n m) := HB0.out.later hW.out.drew
          clear hL hK hX hW hdr hp hlt hj
          go_wp2
          refine wp_region_sched' (G := Grows) (by kernel_rfl) Grows.refl Grows.trans (by kernel_rfl) [(0, true), (1, true), (2, true), (3, true), (5, true), (4, false), (6, true), (7, true), (8, true)] rfl (by kernel_rfl) ?_
          intro KK hKK
          generalize wr.drew = W at HK2 HX2 HW2 HB2 ⊢
          iterate 2 (refine sched_take rfl (by rfl) (v := ?_) ?_ ?_; rotate_left; (intro w' hw'; clear hw'; go_simp; with_reducible rfl); go_simp)
          refine sched_take rfl (by rfl) (v := .agg (K.map bv).toArray) (fun w' hw' => exec_load_row 23 _ rfl w.heap.size rfl 23 _ (0, 0) _ (HK2.out.later hw') Try.underlying23 rfl (info_size hIK.out _ HKl.out)) ?_
          go_simp
          iterate 1 (refine sched_take rfl (by rfl) (v := ?_) ?_ ?_; rotate_left; (intro w' hw'; clear hw'; go_simp; with_reducible rfl); go_simp)
          refine sched_take rfl (by rfl) (v := .agg (B.map bv).toArray) (fun w' hw' => exec_load_row 26 _ rfl xb rfl 26 _ (0, 0) _ (HX2.out.later hw') Try.underlying26 rfl (info_size hIT.out _ hB)) ?_
          go_simp
          refine sched_call (f := 15) (args := #[.agg (K.map bv).toArray, .slice a1 n cap1]) rfl (by rfl) (by go_simp) ?_
          refine (sum_any K a1 n cap1 m _ HKl.out HB2.out (by omega) (by omega) hncm).mono ?_
          rintro e w7 ⟨rfl, hb7⟩
          refine ⟨_, rfl, hb7, ?_⟩
          rw [HT.out]
          have HW7 : Hid (Below w.heap.size w w7) := HW2.out.trans (hb7.mono HW2.out.size)
          clear hb7 HK2 HX2 HW2 HB2
          go_simp
          iterate 3 (refine sched_take rfl (by rfl) (v := ?_) ?_ ?_; rotate_left; (intro w' hw'; clear hw'; have q1 := arr_eq w' 26 16 B B hB hB Try.underlying26; go_simp; with_reducible rfl); go_simp)
          refine sched_done hKK ?_
          go_wp2
          go_ret
          exact ⟨rfl, HW7.out⟩
end Go.Proofs.Ytcnihgjibiidpaa.polyClamps
