/- PolyAdds: the second half of a key is added. For every key and row of bytes, without a condition. -/
import Derived.Test.YtcnihgjibiidpaaPolNum
namespace Go.Proofs.Ytcnihgjibiidpaa.polyAdds
open Go.ChangeShapes Go.WideShapes Go.ChangeAt Go.RowKit
set_option linter.unusedVariables false

/-- The key with the first k bytes of its second half as 0; these bytes, and 0s behind them. -/
def nonK (l : List UInt8) (k : Nat) : List UInt8 := (List.range 32).map fun i => if 16 ≤ i ∧ i < 16 + k then 0 else at8 l i
def secK (l : List UInt8) (k : Nat) : List UInt8 := (List.range 16).map fun i => if i < k then at8 l (16 + i) else 0
theorem nonK_length (l : List UInt8) (k : Nat) : (nonK l k).length = 32 := by simp [nonK]
theorem secK_length (l : List UInt8) (k : Nat) : (secK l k).length = 16 := by simp [secK]
theorem nonK_zero (l : List UInt8) (h : l.length = 32) : nonK l 0 = l := by
  apply List.ext_getElem
  · simp [nonK, h]
  · intro i h1 h2
    simp only [nonK, List.getElem_map, List.getElem_range]
    rw [if_neg (by omega), at8_get l i h2]
theorem secK_zero (l : List UInt8) : secK l 0 = List.replicate 16 0 := by
  apply List.ext_getElem
  · simp [secK]
  · intro i h1 h2
    rw [List.getElem_replicate]
    simp [secK]
theorem nonK_set (l : List UInt8) (k : Nat) (h : k < 16) : (nonK l k).set (16 + k) 0 = nonK l (k + 1) := by
  apply List.ext_getElem
  · simp [nonK]
  · intro i h1 h2
    rw [List.getElem_set]
    simp only [nonK, List.getElem_map, List.getElem_range]
    by_cases e : 16 + k = i
    · rw [if_pos e, if_pos (by omega)]
    · rw [if_neg e]
      by_cases h3 : 16 ≤ i ∧ i < 16 + k
      · rw [if_pos h3, if_pos (by omega)]
      · rw [if_neg h3, if_neg (by omega)]
theorem secK_set (l : List UInt8) (k : Nat) (h : k < 16) : (secK l k).set k (at8 l (16 + k)) = secK l (k + 1) := by
  apply List.ext_getElem
  · simp [secK]
  · intro i h1 h2
    rw [List.getElem_set]
    simp only [secK, List.getElem_map, List.getElem_range]
    by_cases e : k = i
    · subst e; rw [if_pos rfl, if_pos (by omega)]
    · rw [if_neg e]
      by_cases h3 : i < k
      · rw [if_pos h3, if_pos (by omega)]
      · rw [if_neg h3, if_neg (by omega)]
theorem leN_zeros : ∀ n, leN (List.replicate n 0) = 0
  | 0 => rfl
  | n + 1 => by rw [List.replicate_succ, leN, leN_zeros n]; rfl
theorem tag_non (l m : List UInt8) : tag (nonK l 16) m = leB 16 (polyTo (polyR l) m (polyN m.length)) := by
  have e1 : clampB (nonK l 16) = clampB l := by
    apply List.ext_getElem
    · rw [clampB_length, clampB_length]
    · intro i h1 h2
      rw [clampB_length] at h1
      rw [← at8_get, ← at8_get, clampB_at _ i h1, clampB_at l i h1]
      congr 1
      rw [at8_get _ _ (by rw [nonK_length]; omega)]
      simp only [nonK, List.getElem_map, List.getElem_range]
      rw [if_neg (by omega)]
  have e2 : cutB (nonK l 16) 16 16 = List.replicate 16 0 := by
    apply List.ext_getElem
    · simp [cutB, nonK]
    · intro i h1 h2
      have hi : i < 16 := by simpa using h2
      rw [← at8_get, cutB_at _ 16 16 i hi, at8_get _ _ (by rw [nonK_length]; omega)]
      simp only [nonK, List.getElem_map, List.getElem_range, List.getElem_replicate]
      rw [if_pos (by omega)]
  unfold tag polyR polyS
  rw [e1, e2, leN_zeros, Nat.add_zero]
theorem sec_all (l : List UInt8) (h : l.length = 32) : leN (secK l 16) = polyS l := by
  unfold polyS
  congr 1
  apply List.ext_getElem
  · simp [cutB, secK, h]
  · intro i h1 h2
    have hi : i < 16 := by simpa [secK] using h1
    rw [← at8_get (cutB l 16 16), cutB_at _ 16 16 i hi]
    simp only [secK, List.getElem_map, List.getElem_range]
    rw [if_pos hi]
theorem mod_sum (a s t : Nat) (h : a % 256 ^ 16 = t) : (a + s) % 256 ^ 16 = (t + s) % 256 ^ 16 := by rw [← h, Nat.mod_add_mod]

set_option maxHeartbeats 4000000 in
set_option maxRecDepth 100000 in
theorem walk (l0 : List UInt8) (a1 : Option Addr) (len1 cap1 : Nat) (z1 : List Int) (w : World) (w0 : l0.length = 32) (w1 : IsRow .u8 w a1 len1 cap1 z1) :
    Calls Try.prog 5 #[.agg (l0.map bv).toArray, .slice a1 len1 cap1] w fun e w' => e = .returned (.bool true) ∧ Below w.heap.size w w' := by
  obtain ⟨m, n, hnE0, hn1, hn2, hnc, hncm, hBm⟩ := cut_row w1 200
  have hnE : (if (200 : Int) < (len1 : Int) then (200 : Int) else (len1 : Int)) = (n : Int) := hnE0
  have hlm := hBm.1
  clear hnE0 w1
  have HB0 : Hid (Byt w a1 n m) := hBm
  clear hBm
  have IK : (Try.prog.info? 23).map (·.size) = some 32 := by kernel_rfl
  have hIK : Hid ((Try.prog.info? 23).map (·.size) = some 32) := IK
  have IT : (Try.prog.info? 26).map (·.size) = some 16 := by kernel_rfl
  have hIT : Hid ((Try.prog.info? 26).map (·.size) = some 16) := IT
  clear IK IT
  go_enter Try.func5, Try.ntmps5
  go_wp2_with fail
  refine (polShown_any _).mono ?_
  rintro e w4 ⟨rfl, hb4⟩
  have HK4 : Hid (Arr w4 w.heap.size 23 l0) := (Arr.new w _ l0).later hb4
  have hbel0 : Below w.heap.size w (w.alloc (.cells (l0.map bv).toArray 23)) := (Below.refl _ _).alloc (Nat.le_refl _) _
  have HW4 : Hid (Below w.heap.size w w4) := hbel0.trans (hb4.mono hbel0.size)
  have HB4 : Hid (Byt w4 a1 n m) := HB0.out.later HW4.out
  clear hb4 hbel0
  go_wp2_with (first | refine wpList_load_row rfl 23 _ rfl w.heap.size rfl 23 _ (0, 0) _ HK4.out Try.underlying23 rfl (info_size hIK.out _ w0) ?_)
  refine (sum_any l0 a1 n cap1 m _ w0 HB4.out (by omega) (by omega) hncm).mono ?_
  rintro e w5 ⟨rfl, hb5⟩
  have hT1 := tag_length l0 m
  obtain ⟨T1, hT1e⟩ : ∃ T, tag l0 m = T := ⟨_, rfl⟩
  rw [hT1e] at hT1 ⊢
  have HT1e : Hid (tag l0 m = T1) := hT1e
  have HK5 : Hid (Arr w5 w.heap.size 23 l0) := HK4.out.later hb5
  have HW5 : Hid (Below w.heap.size w w5) := HW4.out.trans (hb5.mono HW4.out.size)
  clear hb5 hT1e HK4 HW4 HB4
  go_wp2_with fail
  refine (number_any T1 _ hT1).mono ?_
  rintro e w6 ⟨rfl, hb6⟩
  have HK6 : Hid (Arr w6 w.heap.size 23 l0) := HK5.out.later hb6
  have HW6 : Hid (Below w.heap.size w w6) := HW5.out.trans (hb6.mono HW5.out.size)
  obtain ⟨x, hx⟩ : ∃ x, lowN T1 = x := ⟨_, rfl⟩
  obtain ⟨y, hy⟩ : ∃ y, highN T1 = y := ⟨_, rfl⟩
  have hxb : x < 18446744073709551616 := by rw [← hx]; exact lowN_lt T1
  have hyb : y < 18446744073709551616 := by rw [← hy]; exact highN_lt T1 hT1
  have Hx : Hid (lowN T1 = x) := hx
  have Hy : Hid (highN T1 = y) := hy
  rw [hx, hy]
  clear hb6 HK5 HW5 hx hy
  have hst := run_store_arr w6 23 l0 32 w0 (by kernel_rfl)
  obtain ⟨W7, hW7⟩ : ∃ W7, w6.alloc (.cells (l0.map bv).toArray 23) = W7 := ⟨_, rfl⟩
  have hb7 : Below w6.heap.size w6 W7 := by rw [← hW7]; exact (Below.refl _ _).alloc (Nat.le_refl _) _
  have hN7 : Arr W7 w6.heap.size 23 l0 := by rw [← hW7]; exact Arr.new w6 _ _
  have hs7 : W7.heap.size = w6.heap.size + 1 := by rw [← hW7]; simp
  have hklt := HK6.out.lt
  have HAll : Hid (Arr (W7.alloc (.cells ((secK l0 0).map bv).toArray 26)) w.heap.size 23 l0 ∧ Arr (W7.alloc (.cells ((secK l0 0).map bv).toArray 26)) w6.heap.size 23 (nonK l0 0) ∧ Arr (W7.alloc (.cells ((secK l0 0).map bv).toArray 26)) W7.heap.size 26 (secK l0 0) ∧ Below w.heap.size w (W7.alloc (.cells ((secK l0 0).map bv).toArray 26))) := by
    have hal : Below W7.heap.size W7 (W7.alloc (.cells ((secK l0 0).map bv).toArray 26)) := (Below.refl _ _).alloc (Nat.le_refl _) _
    refine ⟨(HK6.out.later hb7).later hal, ?_, Arr.new W7 _ _, (HW6.out.trans (hb7.mono HW6.out.size)).trans (hal.mono ?_)⟩
    · rw [nonK_zero l0 w0]; exact hN7.later hal
    · have := HW6.out.size; omega
  rw [hW7] at hst
  clear hW7 hb7 hN7 HW6
  go_wp2_with (first | refine wpList_load_row rfl 23 _ rfl w.heap.size rfl 23 _ (0, 0) _ HK6.out Try.underlying23 rfl (info_size hIK.out _ w0) ?_)
  clear hst HK6
  refine from_world (P := Code.wp Try.prog _ _ _) (R := fun W => Hid (Arr W w.heap.size 23 l0 ∧ Arr W w6.heap.size 23 (nonK l0 0) ∧ Arr W W7.heap.size 26 (secK l0 0) ∧ Below w.heap.size w W)) _ HAll ?_
  clear HAll
  intro W8 hAll
  rw [hs7] at hAll
  clear hs7
  obtain ⟨nb, hnb⟩ : ∃ nb, w6.heap.size = nb := ⟨_, rfl⟩
  obtain ⟨sb, hsb⟩ : ∃ sb, w6.heap.size + 1 = sb := ⟨_, rfl⟩
  rw [hsb] at hAll ⊢
  rw [hnb] at hAll hklt ⊢
  have hns : nb < sb := by omega
  clear hsb hnb
  have HA8 : Hid (Arr W8 w.heap.size 23 l0) := hAll.out.1
  have HN8 : Hid (Arr W8 nb 23 (nonK l0 0)) := hAll.out.2.1
  have HS8 : Hid (Arr W8 sb 26 (secK l0 0)) := hAll.out.2.2.1
  have HW8 : Hid (Below w.heap.size w W8) := hAll.out.2.2.2
  clear hAll
  go_loopw [10] (fun i wr => ∃ k : Nat, k ≤ 16 ∧ i = .int .i64 k ∧ Hid (Arr wr w.heap.size 23 l0) ∧ Hid (Arr wr nb 23 (nonK l0 k)) ∧ Hid (Arr wr sb 26 (secK l0 k)) ∧ Hid (Below w.heap.size w wr)) (fun i _ => 16 - (intOf i).toNat)
  case atStart => exact ⟨0, by omega, rfl, HA8, HN8, HS8, HW8⟩
  case round =>
    clear HA8 HN8 HS8 HW8
    obtain ⟨k, hk, rfl, hA, hN, hS, hW⟩ := hrel
    by_cases hlt : k < 16
    · obtain ⟨p, hp⟩ : ∃ p, 16 + k = p := ⟨_, rfl⟩
      have e1 : (16 : Int) + (k : Int) = (p : Int) := by omega
      have hp32 : (p : Int) < 32 := by omega
      have hk16 : (k : Int) < 16 := by omega
      obtain ⟨hc, _⟩ := hA.out.at_ p (by omega)
      obtain ⟨hcs, hfs⟩ := hS.out.at_ k (by rw [secK_length]; omega)
      have hN2 := hN.out.other (g' := sb) (by omega) k (.int .u8 ((at8 l0 p).toNat : Int))
      obtain ⟨hcn, hfn⟩ := hN2.at_ p (by rw [nonK_length]; omega)
      have hS2 := hS.out.set k (at8 l0 p)
      rw [← hp, secK_set l0 k hlt, hp] at hS2
      have hA2 := hA.out.other (g' := sb) (by omega) k (.int .u8 ((at8 l0 p).toNat : Int))
      have hW2 := hW.out.setCell (p := ⟨sb, k, none⟩) (by show _ ≤ sb; omega) (.int .u8 ((at8 l0 p).toNat : Int))
      obtain ⟨W9, hW9⟩ : ∃ W9, wr.setCell ⟨sb, k, none⟩ (.int .u8 ((at8 l0 p).toNat : Int)) = W9 := ⟨_, rfl⟩
      rw [hW9] at hN2 hcn hfn hS2 hA2 hW2
      have HN3 : Hid (Arr (W9.setCell ⟨nb, p, none⟩ (.int .u8 0)) nb 23 (nonK l0 (k + 1))) := by
        have := hN2.set p 0
        rw [← hp, nonK_set l0 k hlt, hp] at this
        exact this
      have HS3 : Hid (Arr (W9.setCell ⟨nb, p, none⟩ (.int .u8 0)) sb 26 (secK l0 (k + 1))) := hS2.other (by omega) _ _
      have HA3 : Hid (Arr (W9.setCell ⟨nb, p, none⟩ (.int .u8 0)) w.heap.size 23 l0) := hA2.other (by omega) _ _
      have HW3 : Hid (Below w.heap.size w (W9.setCell ⟨nb, p, none⟩ (.int .u8 0))) := hW2.setCell (by show _ ≤ nb; omega) _
      clear hA hN hS hW hN2 hS2 hA2 hW2 hp
      go_wp2
      exact ⟨⟨k + 1, by omega, by go_num, HA3, HN3, HS3, HW3⟩, by simp [intOf]; omega⟩
    · have hk16 : ¬ (k : Int) < 16 := by omega
      have ek : k = 16 := by omega
      have HN : Hid (Arr wr nb 23 (nonK l0 16)) := by have := hN.out; rw [ek] at this; exact this
      have HS : Hid (Arr wr sb 26 (secK l0 16)) := by have := hS.out; rw [ek] at this; exact this
      have HB : Hid (Byt wr a1 n m) := HB0.out.later hW.out
      clear hN hS ek hA
      go_wp2_with (first | refine wpList_load_row rfl 23 _ rfl nb rfl 23 _ (0, 0) _ HN.out Try.underlying23 rfl (info_size hIK.out _ (nonK_length l0 16)) ?_)
      refine (sum_any (nonK l0 16) a1 n cap1 m _ (nonK_length l0 16) HB.out (by omega) (by omega) hncm).mono ?_
      rintro e w10 ⟨rfl, hb10⟩
      have hT2 := tag_length (nonK l0 16) m
      obtain ⟨T2, hT2e⟩ : ∃ T, tag (nonK l0 16) m = T := ⟨_, rfl⟩
      rw [hT2e] at hT2 ⊢
      have HT2e : Hid (tag (nonK l0 16) m = T2) := hT2e
      have HS10 : Hid (Arr w10 sb 26 (secK l0 16)) := HS.out.later hb10
      have HW10 : Hid (Below w.heap.size w w10) := hW.out.trans (hb10.mono hW.out.size)
      clear hb10 hT2e HN HS HB hW
      go_wp2_with fail
      refine (number_any T2 _ hT2).mono ?_
      rintro e w11 ⟨rfl, hb11⟩
      have HS11 : Hid (Arr w11 sb 26 (secK l0 16)) := HS10.out.later hb11
      have HW11 : Hid (Below w.heap.size w w11) := HW10.out.trans (hb11.mono HW10.out.size)
      clear hb11 HS10 HW10
      obtain ⟨z, hz⟩ : ∃ z, lowN T2 = z := ⟨_, rfl⟩
      obtain ⟨v, hv⟩ : ∃ v, highN T2 = v := ⟨_, rfl⟩
      have hzb : z < 18446744073709551616 := by rw [← hz]; exact lowN_lt T2
      have hvb : v < 18446744073709551616 := by rw [← hv]; exact highN_lt T2 hT2
      have Hz : Hid (lowN T2 = z) := hz
      have Hv : Hid (highN T2 = v) := hv
      rw [hz, hv]
      clear hz hv
      go_wp2_with (first | refine wpList_load_row rfl 26 _ rfl sb rfl 26 _ (0, 0) _ HS11.out Try.underlying26 rfl (info_size hIT.out _ (secK_length l0 16)) ?_)
      refine (number_any (secK l0 16) _ (secK_length l0 16)).mono ?_
      rintro e w12 ⟨rfl, hb12⟩
      have HW12 : Hid (Below w.heap.size w w12) := HW11.out.trans (hb12.mono HW11.out.size)
      clear hb12 HS11 HW11
      obtain ⟨p, hp⟩ : ∃ p, lowN (secK l0 16) = p := ⟨_, rfl⟩
      obtain ⟨q, hq⟩ : ∃ q, highN (secK l0 16) = q := ⟨_, rfl⟩
      have hpb : p < 18446744073709551616 := by rw [← hp]; exact lowN_lt _
      have hqb : q < 18446744073709551616 := by rw [← hq]; exact highN_lt _ (secK_length l0 16)
      rw [hp, hq]
      have k1 := leN_leB16 (polyTo (polyR l0) m (polyN m.length) + polyS l0)
      have k1' : lowN T1 + 18446744073709551616 * highN T1 = (polyTo (polyR l0) m (polyN m.length) + polyS l0) % 256 ^ 16 := by rw [← HT1e.out]; exact k1
      have k2 : lowN T2 + 18446744073709551616 * highN T2 = polyTo (polyR l0) m (polyN m.length) % 256 ^ 16 := by rw [← HT2e.out, tag_non]; exact leN_leB16 _
      have k3 := lowhigh (secK l0 16) (secK_length l0 16)
      rw [sec_all l0 w0, hp, hq] at k3
      rw [Hz.out, Hv.out] at k2
      rw [Hx.out, Hy.out, mod_sum _ _ _ k2.symm, ← k3] at k1'
      have k4 : x + 18446744073709551616 * y = (z + 18446744073709551616 * v + (p + 18446744073709551616 * q)) % 340282366920938463463374607431768211456 := k1'
      clear k1 k1' k2 k3 hp hq
      have f1 : IntKind.u64.wrap ((z : Int) + (p : Int)) = (x : Int) := by rw [IntKind.wrap_u64]; omega
      obtain ⟨t, ht⟩ : ∃ t, (v + q) % 18446744073709551616 = t := ⟨_, rfl⟩
      have f2 : IntKind.u64.wrap ((v : Int) + (q : Int)) = (t : Int) := by rw [IntKind.wrap_u64]; omega
      have htb : t < 18446744073709551616 := by omega
      by_cases hc : x < z
      · have f3 : IntKind.u64.wrap ((t : Int) + 1) = (y : Int) := by rw [IntKind.wrap_u64]; omega
        have hci : (x : Int) < (z : Int) := by omega
        clear k4 ht
        go_wp2
        go_ret
        exact ⟨rfl, HW12.out⟩
      · have f3 : t = y := by omega
        subst f3
        have hci : ¬ (x : Int) < (z : Int) := by omega
        clear k4 ht
        go_wp2
        go_ret
        exact ⟨rfl, HW12.out⟩
end Go.Proofs.Ytcnihgjibiidpaa.polyAdds
