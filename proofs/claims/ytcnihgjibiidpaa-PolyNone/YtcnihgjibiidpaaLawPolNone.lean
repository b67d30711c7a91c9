/- PolyNone: where the first half is 0, or there are no bytes, the tag is the second half. For every half, row of bytes and key, without a condition. -/
import Derived.Test.YtcnihgjibiidpaaPolNum
namespace Go.Proofs.Ytcnihgjibiidpaa.polyNone
open Go.ChangeShapes Go.WideShapes Go.ChangeAt Go.RowKit
set_option linter.unusedVariables false

/-- The key with the first k bytes of its second half as given. -/
def putK (l h : List UInt8) (k : Nat) : List UInt8 := (List.range 32).map fun i => if 16 ≤ i ∧ i < 16 + k then at8 h (i - 16) else at8 l i
theorem putK_length (l h : List UInt8) (k : Nat) : (putK l h k).length = 32 := by simp [putK]
theorem putK_zero (l h : List UInt8) (hl : l.length = 32) : putK l h 0 = l := by
  apply List.ext_getElem
  · simp [putK, hl]
  · intro i h1 h2
    simp only [putK, List.getElem_map, List.getElem_range]
    rw [if_neg (by omega), at8_get l i h2]
theorem putK_set (l h : List UInt8) (k : Nat) (hk : k < 16) : (putK l h k).set (16 + k) (at8 h k) = putK l h (k + 1) := by
  apply List.ext_getElem
  · simp [putK]
  · intro i h1 h2
    rw [List.getElem_set]
    simp only [putK, List.getElem_map, List.getElem_range]
    by_cases e : 16 + k = i
    · subst e
      rw [if_pos rfl, if_pos (by omega), show 16 + k - 16 = k by omega]
    · rw [if_neg e]
      by_cases h3 : 16 ≤ i ∧ i < 16 + k
      · rw [if_pos h3, if_pos (by omega)]
      · rw [if_neg h3, if_neg (by omega)]
theorem putK_half (l h : List UInt8) (hh : h.length = 16) : cutB (putK l h 16) 16 16 = h := by
  apply List.ext_getElem
  · simp [cutB, putK, hh]
  · intro i h1 h2
    rw [← at8_get, cutB_at _ 16 16 i (by omega), at8_get _ _ (by rw [putK_length]; omega)]
    simp only [putK, List.getElem_map, List.getElem_range]
    rw [if_pos (by omega), show 16 + i - 16 = i by omega, at8_get h i h2]
theorem leB_leN : ∀ l : List UInt8, leB l.length (leN l) = l
  | [] => rfl
  | c :: r => by
    have hc := c.toNat_lt
    simp only [List.length_cons, leB, leN]
    rw [show (c.toNat + 256 * leN r) % 256 = c.toNat by omega, show (c.toNat + 256 * leN r) / 256 = leN r by omega, leB_leN r]
    simp
theorem polyTo_none (m : List UInt8) : ∀ k, polyTo 0 m k = 0
  | 0 => rfl
  | k + 1 => by rw [polyTo, Nat.mul_zero, Nat.zero_mod]
theorem tag_zero (h m : List UInt8) (hh : h.length = 16) : tag (putK (List.replicate 32 0) h 16) m = h := by
  have e : clampB (putK (List.replicate 32 0) h 16) = List.replicate 16 0 := by
    apply List.ext_getElem
    · simp [clampB]
    · intro i h1 h2
      have hi : i < 16 := by simpa using h2
      rw [← at8_get, clampB_at _ i hi, List.getElem_replicate, at8_get _ _ (by rw [putK_length]; omega)]
      simp only [putK, List.getElem_map, List.getElem_range]
      rw [if_neg (by omega)]
      have e0 : at8 (List.replicate 32 (0 : UInt8)) i = 0 := by
        rw [at8_get _ _ (by simp; omega), List.getElem_replicate]
      rw [e0]
      unfold clamp1
      split
      · rfl
      · split <;> rfl
  have e3 : leN (List.replicate 16 (0 : UInt8)) = 0 := by decide
  unfold tag polyR polyS
  rw [e, e3, polyTo_none, Nat.zero_add, putK_half _ h hh]
  have := leB_leN h
  rwa [hh] at this
theorem tag_nil (l h : List UInt8) (hh : h.length = 16) : tag (putK l h 16) [] = h := by
  unfold tag polyS
  rw [putK_half _ h hh]
  show leB 16 (0 + leN h) = h
  rw [Nat.zero_add]
  have := leB_leN h
  rwa [hh] at this

set_option maxHeartbeats 4000000 in
set_option maxRecDepth 100000 in
theorem walk (l0 : List UInt8) (a1 : Option Addr) (len1 cap1 : Nat) (z1 : List Int) (l2 : List UInt8) (w : World) (w0 : l0.length = 16) (w1 : IsRow .u8 w a1 len1 cap1 z1) (w2 : l2.length = 32) :
    Calls Try.prog 6 #[.agg (l0.map bv).toArray, .slice a1 len1 cap1, .agg (l2.map bv).toArray] w fun e w' => e = .returned (.bool true) ∧ Below w.heap.size w w' := by
  obtain ⟨m, n, hnE0, hn1, hn2, hnc, hncm, hBm⟩ := cut_row w1 200
  have hnE : (if (200 : Int) < (len1 : Int) then (200 : Int) else (len1 : Int)) = (n : Int) := hnE0
  have hlm := hBm.1
  clear hnE0 w1
  have HB0 : Hid (Byt w a1 n m) := hBm
  clear hBm
  have IK : (Try.prog.info? 23).map (·.size) = some 32 := by kernel_rfl
  have hIK : Hid ((Try.prog.info? 23).map (·.size) = some 32) := IK
  have IT : (Try.prog.info? 26).map (·.size) = some 16 := by kernel_rfl
  have hIT : Hid ((Try.prog.info? 26).map (·.size) = some 16) := IT
  clear IK IT
  go_enter Try.func6, Try.ntmps6
  go_wp2_with fail
  refine (polShown_any _).mono ?_
  rintro e w4 ⟨rfl, hb4⟩
  have hbel0 : Below w.heap.size w ((w.alloc (.cells (l0.map bv).toArray 26)).alloc (.cells (l2.map bv).toArray 23)) := ((Below.refl _ _).alloc (Nat.le_refl _) _).alloc (by simp) _
  have hH0 : Arr ((w.alloc (.cells (l0.map bv).toArray 26)).alloc (.cells (l2.map bv).toArray 23)) w.heap.size 26 l0 := (Arr.new w _ l0).later ((Below.refl _ _).alloc (Nat.le_refl _) _)
  have hK0 : Arr ((w.alloc (.cells (l0.map bv).toArray 26)).alloc (.cells (l2.map bv).toArray 23)) (w.heap.size + 1) 23 l2 := by
    have := Arr.new (w.alloc (.cells (l0.map bv).toArray 26)) 23 l2
    rwa [World.size_alloc] at this
  have hW4 : Below w.heap.size w w4 := hbel0.trans (hb4.mono hbel0.size)
  have hlt4 : w.heap.size + 1 < w4.heap.size := (hK0.later hb4).lt
  have hal : Below w4.heap.size w4 (w4.alloc (.cells ((List.replicate 32 0).map bv).toArray 23)) := (Below.refl _ _).alloc (Nat.le_refl _) _
  have HAll : Hid (Arr (w4.alloc (.cells ((List.replicate 32 0).map bv).toArray 23)) w.heap.size 26 l0 ∧ Arr (w4.alloc (.cells ((List.replicate 32 0).map bv).toArray 23)) (w.heap.size + 1) 23 (putK l2 l0 0) ∧ Arr (w4.alloc (.cells ((List.replicate 32 0).map bv).toArray 23)) w4.heap.size 23 (putK (List.replicate 32 0) l0 0) ∧ Below w.heap.size w (w4.alloc (.cells ((List.replicate 32 0).map bv).toArray 23))) := by
    refine ⟨(hH0.later hb4).later hal, ?_, ?_, hW4.trans (hal.mono hW4.size)⟩
    · rw [putK_zero l2 l0 w2]; exact (hK0.later hb4).later hal
    · rw [putK_zero _ l0 (by simp)]; exact Arr.new w4 _ _
  clear hb4 hbel0 hH0 hK0 hW4 hal
  go_wp2
  refine from_world (P := Code.wp Try.prog _ _ _) (R := fun W => Hid (Arr W w.heap.size 26 l0 ∧ Arr W (w.heap.size + 1) 23 (putK l2 l0 0) ∧ Arr W w4.heap.size 23 (putK (List.replicate 32 0) l0 0) ∧ Below w.heap.size w W)) _ HAll ?_
  clear HAll
  intro W8 hAll
  generalize w4.heap.size = zb at hAll hlt4 ⊢
  have HA8 : Hid (Arr W8 w.heap.size 26 l0) := hAll.out.1
  have HN8 : Hid (Arr W8 (w.heap.size + 1) 23 (putK l2 l0 0)) := hAll.out.2.1
  have HS8 : Hid (Arr W8 zb 23 (putK (List.replicate 32 0) l0 0)) := hAll.out.2.2.1
  have HW8 : Hid (Below w.heap.size w W8) := hAll.out.2.2.2
  clear hAll
  go_loopw [9] (fun i wr => ∃ k : Nat, k ≤ 16 ∧ i = .int .i64 k ∧ Hid (Arr wr w.heap.size 26 l0) ∧ Hid (Arr wr (w.heap.size + 1) 23 (putK l2 l0 k)) ∧ Hid (Arr wr zb 23 (putK (List.replicate 32 0) l0 k)) ∧ Hid (Below w.heap.size w wr)) (fun i _ => 16 - (intOf i).toNat)
  case atStart => exact ⟨0, by omega, rfl, HA8, HN8, HS8, HW8⟩
  case round =>
    clear HA8 HN8 HS8 HW8
    obtain ⟨k, hk, rfl, hA, hN, hS, hW⟩ := hrel
    by_cases hlt : k < 16
    · obtain ⟨p, hp⟩ : ∃ p, 16 + k = p := ⟨_, rfl⟩
      have e1 : (16 : Int) + (k : Int) = (p : Int) := by omega
      have hp32 : (p : Int) < 32 := by omega
      have hk16 : (k : Int) < 16 := by omega
      obtain ⟨hc, _⟩ := hA.out.at_ k (by omega)
      obtain ⟨hcs, hfs⟩ := hS.out.at_ p (by rw [putK_length]; omega)
      have hA2 := hA.out.other (g' := zb) (by omega) p (.int .u8 ((at8 l0 k).toNat : Int))
      obtain ⟨hc2, _⟩ := hA2.at_ k (by omega)
      have hN2 := hN.out.other (g' := zb) (by omega) p (.int .u8 ((at8 l0 k).toNat : Int))
      obtain ⟨hcn, hfn⟩ := hN2.at_ p (by rw [putK_length]; omega)
      have hS2 := hS.out.set p (at8 l0 k)
      rw [← hp, putK_set _ l0 k hlt, hp] at hS2
      have hW2 := hW.out.setCell (p := ⟨zb, p, none⟩) (by show _ ≤ zb; omega) (.int .u8 ((at8 l0 k).toNat : Int))
      obtain ⟨W9, hW9⟩ : ∃ W9, wr.setCell ⟨zb, p, none⟩ (.int .u8 ((at8 l0 k).toNat : Int)) = W9 := ⟨_, rfl⟩
      rw [hW9] at hN2 hcn hfn hS2 hA2 hW2 hc2
      have HN3 : Hid (Arr (W9.setCell ⟨w.heap.size + 1, p, none⟩ (.int .u8 ((at8 l0 k).toNat : Int))) (w.heap.size + 1) 23 (putK l2 l0 (k + 1))) := by
        have := hN2.set p (at8 l0 k)
        rw [← hp, putK_set _ l0 k hlt, hp] at this
        exact this
      have HS3 : Hid (Arr (W9.setCell ⟨w.heap.size + 1, p, none⟩ (.int .u8 ((at8 l0 k).toNat : Int))) zb 23 (putK (List.replicate 32 0) l0 (k + 1))) := hS2.other (by omega) _ _
      have HA3 : Hid (Arr (W9.setCell ⟨w.heap.size + 1, p, none⟩ (.int .u8 ((at8 l0 k).toNat : Int))) w.heap.size 26 l0) := hA2.other (by omega) _ _
      have HW3 : Hid (Below w.heap.size w (W9.setCell ⟨w.heap.size + 1, p, none⟩ (.int .u8 ((at8 l0 k).toNat : Int)))) := hW2.setCell (by show _ ≤ w.heap.size + 1; omega) _
      clear hA hN hS hW hN2 hS2 hA2 hW2 hp
      go_wp2
      exact ⟨⟨k + 1, by omega, by go_num, HA3, HN3, HS3, HW3⟩, by simp [intOf]; omega⟩
    · have hk16 : ¬ (k : Int) < 16 := by omega
      have ek : k = 16 := by omega
      obtain ⟨K1, hK1⟩ : ∃ K1, putK l2 l0 16 = K1 := ⟨_, rfl⟩
      obtain ⟨K2, hK2⟩ : ∃ K2, putK (List.replicate 32 0) l0 16 = K2 := ⟨_, rfl⟩
      have hdr : Below wr.heap.size wr wr.drew := (Below.refl _ _).drew
      have HN : Hid (Arr wr.drew (w.heap.size + 1) 23 K1) := by have := hN.out; rw [ek, hK1] at this; exact this.later hdr
      have HS : Hid (Arr wr.drew zb 23 K2) := by have := hS.out; rw [ek, hK2] at this; exact this.later hdr
      have HA : Hid (Arr wr.drew w.heap.size 26 l0) := hA.out.later hdr
      have HB : Hid (Byt wr.drew a1 n m) := HB0.out.later hW.out.drew
      have HW : Hid (Below w.heap.size w wr.drew) := hW.out.drew
      have hL1 : K1.length = 32 := by rw [← hK1]; exact putK_length _ _ _
      have hL2 : K2.length = 32 := by rw [← hK2]; exact putK_length _ _ _
      have HT1 : Hid (tag K1 [] = l0) := by rw [← hK1]; exact tag_nil l2 l0 w0
      have HT2 : Hid (tag K2 m = l0) := by rw [← hK2]; exact tag_zero l0 m w0
      clear hN hS ek hA hW hK1 hK2 hdr
      go_wp2
      refine wp_region_sched' (G := Grows) (by kernel_rfl) Grows.refl Grows.trans (by kernel_rfl) [(0, true), (1, true), (2, true), (3, true), (5, true), (4, false), (6, true), (7, true), (8, true), (9, true), (11, true), (10, false), (12, true), (13, true), (14, true)] rfl (by kernel_rfl) ?_
      intro KK hKK
      generalize wr.drew = W at HN HS HA HB HW ⊢
      iterate 2 (refine sched_take rfl (by rfl) (v := ?_) ?_ ?_; rotate_left; (intro w' hw'; clear hw'; go_simp; with_reducible rfl); go_simp)
      refine sched_take rfl (by rfl) (v := .agg (K2.map bv).toArray) (fun w' hw' => exec_load_row 23 _ rfl zb rfl 23 _ (0, 0) _ (HS.out.later hw') Try.underlying23 rfl (info_size hIK.out _ hL2)) ?_
      go_simp
      iterate 1 (refine sched_take rfl (by rfl) (v := ?_) ?_ ?_; rotate_left; (intro w' hw'; clear hw'; go_simp; with_reducible rfl); go_simp)
      refine sched_take rfl (by rfl) (v := .agg (l0.map bv).toArray) (fun w' hw' => exec_load_row 26 _ rfl w.heap.size rfl 26 _ (0, 0) _ (HA.out.later hw') Try.underlying26 rfl (info_size hIT.out _ w0)) ?_
      go_simp
      refine sched_call (f := 15) (args := #[.agg (K2.map bv).toArray, .slice a1 n cap1]) rfl (by rfl) (by go_simp) ?_
      refine (sum_any K2 a1 n cap1 m _ hL2 HB.out (by omega) (by omega) hncm).mono ?_
      rintro e w7 ⟨rfl, hb7⟩
      refine ⟨_, rfl, hb7, ?_⟩
      rw [HT2.out]
      have HW7 : Hid (Below w.heap.size w w7) := HW.out.trans (hb7.mono HW.out.size)
      have HA7 : Hid (Arr w7 w.heap.size 26 l0) := HA.out.later hb7
      have HN7 : Hid (Arr w7 (w.heap.size + 1) 23 K1) := HN.out.later hb7
      clear hb7 HN HS HA HB HW
      go_simp
      iterate 3 (refine sched_take rfl (by rfl) (v := ?_) ?_ ?_; rotate_left; (intro w' hw'; clear hw'; have q1 := arr_eq w' 26 16 l0 l0 w0 w0 Try.underlying26; go_simp; with_reducible rfl); go_simp)
      refine sched_take rfl (by rfl) (v := .agg (K1.map bv).toArray) (fun w' hw' => exec_load_row 23 _ rfl (w.heap.size + 1) rfl 23 _ (0, 0) _ (HN7.out.later hw') Try.underlying23 rfl (info_size hIK.out _ hL1)) ?_
      go_simp
      refine sched_take rfl (by rfl) (v := .agg (l0.map bv).toArray) (fun w' hw' => exec_load_row 26 _ rfl w.heap.size rfl 26 _ (0, 0) _ (HA7.out.later hw') Try.underlying26 rfl (info_size hIT.out _ w0)) ?_
      go_simp
      refine sched_call (f := 15) (args := #[.agg (K1.map bv).toArray, .slice none 0 0]) rfl (by rfl) (by go_simp) ?_
      refine (sum_any K1 none 0 0 [] _ hL1 ⟨rfl, .inl rfl⟩ (by omega) (by omega) (by unfold maxLen; omega)).mono ?_
      rintro e w9 ⟨rfl, hb9⟩
      refine ⟨_, rfl, hb9, ?_⟩
      rw [HT1.out]
      have HW9 : Hid (Below w.heap.size w w9) := HW7.out.trans (hb9.mono HW7.out.size)
      clear hb9 HN7 HA7 HW7
      go_simp
      iterate 3 (refine sched_take rfl (by rfl) (v := ?_) ?_ ?_; rotate_left; (intro w' hw'; clear hw'; have q1 := arr_eq w' 26 16 l0 l0 w0 w0 Try.underlying26; go_simp; with_reducible rfl); go_simp)
      refine sched_done hKK ?_
      go_wp2
      go_ret
      exact ⟨rfl, HW9.out⟩
end Go.Proofs.Ytcnihgjibiidpaa.polyNone
