/- The walk over what must be in any case (blake). -/
import Derived.Test.YtfalekfddeaioaaDoorBlkJ
import Derived.Test.YtfalekfddeaioaaDoorBlkEv
import Derived.Test.YtfalekfddeaioaaDoorShown
import Derived.Test.YtfalekfddeaioaaDoorFrame
import Derived.Lib.SlBytesConst
namespace Go.Proofs.YtfalekfddeaioaaDoor
set_option linter.unusedVariables false
open Go.RowKit

/-- A row that came in and is nil has no room. -/
theorem brow_nil {w : World} {a : Option Addr} {len cap : Nat} {zs : List Int} (h : IsRow .u8 w a len cap zs) : a = none → cap = 0 := fun e => by
  rcases h with ⟨_, _, h1, _⟩ | ⟨x, e2, _⟩
  · exact h1
  · rw [e] at e2; cases e2
theorem Tab.alloc {w : World} (h : Tab w) (o : Obj) : Tab (w.alloc o) := h.later ((Below.refl _ _).alloc (Nat.le_refl _) _)
/-- A key, held against one of 0s. -/
theorem key_zero (w : World) (X : List UInt8) (hX : X.length = 32) : (Op.equalIn 10000 25 (.agg (X.map bv).toArray) (.agg #[.int .u8 0, .int .u8 0, .int .u8 0, .int .u8 0, .int .u8 0, .int .u8 0, .int .u8 0, .int .u8 0, .int .u8 0, .int .u8 0, .int .u8 0, .int .u8 0, .int .u8 0, .int .u8 0, .int .u8 0, .int .u8 0, .int .u8 0, .int .u8 0, .int .u8 0, .int .u8 0, .int .u8 0, .int .u8 0, .int .u8 0, .int .u8 0, .int .u8 0, .int .u8 0, .int .u8 0, .int .u8 0, .int .u8 0, .int .u8 0, .int .u8 0, .int .u8 0])).run Tryd.prog w = .ok (decide (X = List.replicate 32 0)) w :=
  arr_eq w 25 32 X (List.replicate 32 0) hX rfl Tryd.underlying25
set_option maxHeartbeats 2000000 in
set_option maxRecDepth 100000 in
theorem blkShown_any (w : World) (htab : Tab w) : Calls Tryd.prog 8 #[] w fun e w' => e = .returned (.bool true) ∧ Below w.heap.size w w' := by
  have kd0 : ∀ (W : World) (C : Array Value) (n c : Nat), (convert 22 22 (.slice (some ⟨W.heap.size, 0, none⟩) n c)).run Tryd.prog (W.alloc (.cells C 5)) = .ok (.slice (some ⟨W.heap.size, 0, none⟩) n c) (W.alloc (.cells C 5 (C.size, C.size + 1))) := fun W C n c =>
    Lib.run_convert_bytes_const (P := Tryd.prog) W 22 5 C n c Tryd.underlying22 Tryd.underlying5
  have HTab : Hid (Tab w) := htab
  have hlt := htab.lt
  clear htab
  go_enter Tryd.func8, Tryd.ntmps8
  go_wp2_with fail
  have hb0 : Below w.heap.size w (w.alloc (.cells #[.int .u8 97, .int .u8 98, .int .u8 99] 5 (3, 4))) := (Below.refl _ _).alloc (Nat.le_refl _) _
  refine (bsum_any (some ⟨w.heap.size, 0, none⟩) 3 3 [97, 98, 99] _ (byt_lit _ [97, 98, 99] w.heap.size _ _ (3, 4) (heap_alloc_new w _) rfl) (fun e => by cases e) (by omega) (by unfold maxLen; omega) (by omega) (HTab.out.alloc _)).mono ?_
  rintro e w1 ⟨rfl, hb1⟩
  obtain ⟨z0, z1, z2, z31⟩ := blake_abc
  have hB := blakeB_length [97, 98, 99]
  obtain ⟨B, hBe⟩ : ∃ B, blakeB [97, 98, 99] = B := ⟨_, rfl⟩
  rw [hBe] at z0 z1 z2 z31 hB ⊢
  have HBe : Hid (blakeB [97, 98, 99] = B) := hBe
  have hW1 : Below w.heap.size w w1 := hb0.trans (hb1.mono hb0.size)
  have hst := run_store_arr w1 25 B 32 hB (by kernel_rfl)
  have hA1 := Arr.new w1 25 B
  obtain ⟨W1, hW1e⟩ : ∃ W1, w1.alloc (.cells (B.map bv).toArray 25) = W1 := ⟨_, rfl⟩
  have hbW1 : Below w.heap.size w W1 := by rw [← hW1e]; exact hW1.alloc hW1.size _
  rw [hW1e] at hst hA1
  have hkw : w.heap.size ≤ w1.heap.size := hW1.size
  have HA1 : Hid (Arr W1 w1.heap.size 25 B) := hA1
  have HB1 : Hid (Below w.heap.size w W1) := hbW1
  clear hBe hb0 hb1 hW1 hW1e hbW1 hA1
  go_wp2_with fail
  clear hst
  generalize w1.heap.size = kb at HA1 hkw ⊢
  refine (bnew_any W1 (HTab.out.later HB1.out)).mono ?_
  rintro e w2 ⟨g, rfl, hg, hH2, hb2⟩
  have hsz1 := HB1.out.size
  have hkg : kb < g := Nat.lt_of_lt_of_le HA1.out.lt hg
  have hwg : w.heap.size ≤ g := Nat.le_trans hsz1 hg
  have hgt : g ≠ 0 ∧ g ≠ 1 := by omega
  have HA2 : Hid (Arr w2 kb 25 B) := HA1.out.later hb2
  have HB2 : Hid (Below w.heap.size w w2) := HB1.out.trans (hb2.mono hsz1)
  have HH2 : Hid (HashIs w2 g []) := hH2
  clear HA1 HB1 hH2 hb2 hg hsz1
  go_wp2_with fail
  have hal : Below w2.heap.size w2 (w2.alloc (.cells #[.int .u8 97, .int .u8 98] 5 (2, 3))) := (Below.refl _ _).alloc (Nat.le_refl _) _
  have hgl2 := HH2.out.lt
  refine (bwrite_any g [] (some ⟨w2.heap.size, 0, none⟩) 2 2 [97, 98] _ (HH2.out.later hal) (byt_lit _ [97, 98] w2.heap.size _ _ (2, 3) (heap_alloc_new w2 _) rfl) (fun e => by cases e) (fun _ b o f e => by cases e; omega) (by omega) (by unfold maxLen; omega) (by simp) (HTab.out.later (HB2.out.trans (hal.mono HB2.out.size))) hgt).mono ?_
  rintro e w3 ⟨⟨v, rfl⟩, hH3, hG3⟩
  have hne : kb ≠ g := by omega
  have HH3 : Hid (HashIs w3 g [97, 98]) := hH3
  have HB3 : Hid (Below w.heap.size w w3) := by
    have h1 := HB2.out.trans (hal.mono HB2.out.size)
    exact h1.trans ⟨hG3.os, hG3.tape, hG3.output, hG3.size, fun k hk => hG3.block k (by have := h1.size; omega) (fun e => by cases e; omega)⟩
  have HA3 : Hid (Arr w3 kb 25 B) := by
    have h1 := HA2.out.later hal
    unfold Arr
    show _ = _
    rw [hG3.block kb h1.lt (fun e => hne (by cases e; rfl))]
    exact h1
  clear HA2 HB2 HH2 hH3 hG3 hal hgl2
  go_wp2_with fail
  refine (bhsum_any g [97, 98] w3 HH3.out (by simp) (HTab.out.later HB3.out)).mono ?_
  rintro e w4 ⟨rfl, hb4⟩
  have y0 := blake_ab
  have hX := blakeB_length [97, 98]
  generalize blakeB [97, 98] = X at y0 hX ⊢
  have hst := run_store_arr w4 25 X 32 hX (by kernel_rfl)
  have hA4 := Arr.new w4 25 X
  obtain ⟨W4, hW4e⟩ : ∃ W4, w4.alloc (.cells (X.map bv).toArray 25) = W4 := ⟨_, rfl⟩
  rw [hW4e] at hst hA4
  have hb34 : Below w3.heap.size w3 W4 := by rw [← hW4e]; exact hb4.alloc hb4.size _
  have hsz3 := HB3.out.size
  have HX4 : Hid (Arr W4 w4.heap.size 25 X) := hA4
  have HA4 : Hid (Arr W4 kb 25 B) := HA3.out.later hb34
  have HH4 : Hid (HashIs W4 g [97, 98]) := HH3.out.later hb34
  have HB4 : Hid (Below w.heap.size w W4) := HB3.out.trans (hb34.mono hsz3)
  have hxg : g < w4.heap.size := Nat.lt_of_lt_of_le HH3.out.lt hb4.size
  clear HA3 HB3 HH3 hb34 hb4 hA4 hW4e hsz3
  go_wp2_with fail
  clear hst
  generalize w4.heap.size = xb at HX4 hxg ⊢
  have hal : Below W4.heap.size W4 (W4.alloc (.cells #[.int .u8 99] 5 (1, 2))) := (Below.refl _ _).alloc (Nat.le_refl _) _
  have hgl4 := HH4.out.lt
  refine (bwrite_any g [97, 98] (some ⟨W4.heap.size, 0, none⟩) 1 1 [99] _ (HH4.out.later hal) (byt_lit _ [99] W4.heap.size _ _ (1, 2) (heap_alloc_new W4 _) rfl) (fun e => by cases e) (fun _ b o f e => by cases e; omega) (by omega) (by unfold maxLen; omega) (by simp) (HTab.out.later (HB4.out.trans (hal.mono HB4.out.size))) hgt).mono ?_
  rintro e w5 ⟨⟨v5, rfl⟩, hH5, hG5⟩
  have hxne : xb ≠ g := by omega
  have HH5 : Hid (HashIs w5 g [97, 98, 99]) := hH5
  have HB5 : Hid (Below w.heap.size w w5) := by
    have h1 := HB4.out.trans (hal.mono HB4.out.size)
    exact h1.trans ⟨hG5.os, hG5.tape, hG5.output, hG5.size, fun k hk => hG5.block k (by have := h1.size; omega) (fun e => by cases e; omega)⟩
  have HA5 : Hid (Arr w5 kb 25 B) := by
    have h1 := HA4.out.later hal
    unfold Arr
    show _ = _
    rw [hG5.block kb h1.lt (fun e => hne (by cases e; rfl))]
    exact h1
  have HX5 : Hid (Arr w5 xb 25 X) := by
    have h1 := HX4.out.later hal
    unfold Arr
    show _ = _
    rw [hG5.block xb h1.lt (fun e => hxne (by cases e; rfl))]
    exact h1
  clear HA4 HX4 HB4 HH4 hH5 hG5 hal hgl4
  go_wp2
  obtain ⟨W, hWd⟩ : ∃ W, w5.drew = W := ⟨_, rfl⟩
  have HWd : Hid (w5.drew = W) := hWd
  have hdr : Below w5.heap.size w5 W := by rw [← hWd]; exact (Below.refl _ _).drew
  have HA6 : Hid (Arr W kb 25 B) := HA5.out.later hdr
  have HX6 : Hid (Arr W xb 25 X) := HX5.out.later hdr
  have HH6 : Hid (HashIs W g [97, 98, 99]) := HH5.out.later hdr
  have HB6 : Hid (Below w.heap.size w W) := HB5.out.trans (hdr.mono HB5.out.size)
  clear HA5 HX5 HH5 HB5 hdr hWd kd0
  have IB : Hid ((Tryd.prog.info? 25).map (·.size) = some (B.map bv).toArray.size) := info_size (n := 32) (by kernel_rfl) B hB
  have IX : Hid ((Tryd.prog.info? 25).map (·.size) = some (X.map bv).toArray.size) := info_size (n := 32) (by kernel_rfl) X hX
  have e0 : ((at8 B 0).toNat : Int) = 80 := by rw [z0]; rfl
  have e1 : ((at8 B 1).toNat : Int) = 140 := by rw [z1]; rfl
  have e2 : ((at8 B 2).toNat : Int) = 94 := by rw [z2]; rfl
  have e31 : ((at8 B 31).toNat : Int) = 130 := by rw [z31]; rfl
  have hld : ∀ w', Grows W w' → w'.cell? ⟨kb, 0, none⟩ = some (.int .u8 80) ∧ w'.cell? ⟨kb, 1, none⟩ = some (.int .u8 140) ∧ w'.cell? ⟨kb, 2, none⟩ = some (.int .u8 94) ∧ w'.cell? ⟨kb, 31, none⟩ = some (.int .u8 130) := fun w' hw' => by
    have h := HA6.out.later hw'
    refine ⟨?_, ?_, ?_, ?_⟩
    · rw [(h.at_ 0 (by omega)).1, e0]
    · rw [(h.at_ 1 (by omega)).1, e1]
    · rw [(h.at_ 2 (by omega)).1, e2]
    · rw [(h.at_ 31 (by omega)).1, e31]
  clear e0 e1 e2 e31 z0 z1 z2 z31
  refine wp_region_sched' (G := Grows) (by kernel_rfl) Grows.refl Grows.trans (by kernel_rfl) [(0, true), (1, true), (2, true), (3, true), (4, true), (5, true), (6, true), (7, true), (8, true), (9, true), (10, true), (11, true), (12, true), (13, true), (14, true), (15, true), (16, true), (17, true), (18, true), (19, true), (21, true), (20, false), (22, true), (23, true), (24, true), (25, true), (26, true), (27, true), (28, true), (29, true)] rfl (by kernel_rfl) ?_
  intro KK hKK
  rw [HWd.out]
  iterate 20 (refine sched_take rfl (by rfl) (v := ?_) ?_ ?_; rotate_left; (intro w' hw'; obtain ⟨q0, q1, q2, q3⟩ := hld w' hw'; clear hw'; go_simp; with_reducible rfl); go_simp)
  refine sched_take rfl (by rfl) (v := .agg (B.map bv).toArray) (fun w' hw' => exec_load_row 25 _ rfl kb rfl 25 _ (0, 0) _ (HA6.out.later hw') Tryd.underlying25 rfl IB.out) ?_
  go_simp
  refine sched_call (f := 13) (args := #[.pointer (some ⟨g, 0, none⟩)]) rfl (by rfl) (by go_simp) ?_
  refine (bhsum_any g [97, 98, 99] W HH6.out (by simp) (HTab.out.later HB6.out)).mono ?_
  rintro e w7 ⟨rfl, hb7⟩
  refine ⟨_, rfl, hb7, ?_⟩
  rw [HBe.out]
  have HX7 : Hid (Arr w7 xb 25 X) := HX6.out.later hb7
  have HB7 : Hid (Below w.heap.size w w7) := HB6.out.trans (hb7.mono HB6.out.size)
  clear HX6 HB6 HH6 HA6 hb7 hld
  go_simp
  iterate 3 (refine sched_take rfl (by rfl) (v := ?_) ?_ ?_; rotate_left; (intro w' hw'; clear hw'; have q1 := arr_eq w' 25 32 B B hB hB Tryd.underlying25; rw [decide_eq_true rfl] at q1; go_simp; with_reducible rfl); go_simp)
  refine sched_take rfl (by rfl) (v := .agg (X.map bv).toArray) (fun w' hw' => exec_load_row 25 _ rfl xb rfl 25 _ (0, 0) _ (HX7.out.later hw') Tryd.underlying25 rfl IX.out) ?_
  go_simp
  have hXne : X ≠ List.replicate 32 0 := fun e => y0 (by rw [e]; rfl)
  iterate 1 (refine sched_take rfl (by rfl) (v := ?_) ?_ ?_; rotate_left; (intro w' hw'; clear hw'; go_simp; with_reducible rfl); go_simp)
  iterate 3 (refine sched_take rfl (by rfl) (v := ?_) ?_ ?_; rotate_left; (intro w' hw'; clear hw'; have q1 := key_zero w' X hX; rw [decide_eq_false hXne] at q1; go_simp; with_reducible rfl); go_simp)
  refine sched_done hKK ?_
  go_wp2
  go_ret
  exact ⟨rfl, HB7.out⟩
end Go.Proofs.YtfalekfddeaioaaDoor
