/- The walk over what must be in any case (poly), and over the law's own 'number'. -/
import Derived.Test.YtcnihgjibiidpaaPolC
namespace Go.Proofs.Ytcnihgjibiidpaa
set_option linter.unusedVariables false
open Go.RowKit

/-- The key of what is shown, as far as it is made. -/
def shK (k : Nat) : List UInt8 := (List.range 32).map fun j => if 16 ≤ j ∧ j < 16 + k then UInt8.ofNat (j - 16) else 0
theorem shK_length (k : Nat) : (shK k).length = 32 := by simp [shK]
theorem shK_set (k : Nat) (h : k < 16) : (shK k).set (16 + k) (UInt8.ofNat k) = shK (k + 1) := by
  apply List.ext_getElem
  · simp [shK]
  · intro i h1 h2
    have hi : i < 32 := by simpa [shK] using h2
    rw [List.getElem_set]
    by_cases e : 16 + k = i
    · subst e
      rw [if_pos rfl]
      simp only [shK, List.getElem_map, List.getElem_range]
      rw [if_pos (by omega), show 16 + k - 16 = k by omega]
    · rw [if_neg e]
      simp only [shK, List.getElem_map, List.getElem_range]
      by_cases h3 : 16 ≤ i ∧ i < 16 + k
      · rw [if_pos h3, if_pos (by omega)]
      · rw [if_neg h3, if_neg (by omega)]
theorem shown_tags : at8 (tag (shK 16) [97, 98, 99]) 0 = 0 ∧ at8 (tag (shK 16) [97, 98, 99]) 15 = 15 ∧ at8 (tag ((shK 16).set 0 1) [1]) 0 = 1 ∧ at8 (tag ((shK 16).set 0 1) [1]) 1 = 2 ∧ at8 (tag ((shK 16).set 0 1) [1]) 15 = 15 := by decide +kernel

set_option maxHeartbeats 2000000 in
set_option maxRecDepth 100000 in
theorem polShown_any (w : World) : Calls Try.prog 14 #[] w fun e w' => e = .returned (.bool true) ∧ Below w.heap.size w w' := by
  have HA0 : Hid (Arr (w.alloc (.cells ((shK 0).map bv).toArray 23)) w.heap.size 23 (shK 0)) := Arr.new w _ _
  have HW0 : Hid (Below w.heap.size w (w.alloc (.cells ((shK 0).map bv).toArray 23))) := (Below.refl _ _).alloc (Nat.le_refl _) _
  have IK : (Try.prog.info? 23).map (·.size) = some 32 := by kernel_rfl
  have hIK : Hid ((Try.prog.info? 23).map (·.size) = some 32) := IK
  clear IK
  go_enter Try.func14, Try.ntmps14
  go_wp2
  refine from_world (P := Code.wp Try.prog _ _ _) (R := fun W => Hid (Arr W w.heap.size 23 (shK 0)) ∧ Hid (Below w.heap.size w W)) _ ⟨HA0, HW0⟩ ?_
  clear HA0 HW0
  rintro W0 ⟨hA0, hW0⟩
  go_loopw [2] (fun i wr => ∃ k : Nat, k ≤ 16 ∧ i = .int .i64 k ∧ Hid (Arr wr w.heap.size 23 (shK k)) ∧ Hid (Below w.heap.size w wr)) (fun i _ => 16 - (intOf i).toNat)
  case atStart => exact ⟨0, by omega, rfl, hA0, hW0⟩
  case round =>
    clear hA0 hW0
    obtain ⟨k, hk, rfl, hA, hW⟩ := hrel
    by_cases hlt : k < 16
    · obtain ⟨p, hp⟩ : ∃ p, 16 + k = p := ⟨_, rfl⟩
      obtain ⟨hc, hf⟩ := hA.out.at_ p (by rw [shK_length]; omega)
      have hki : (k : Int) < 16 := by omega
      have HA2 : Hid (Arr (wr.setCell ⟨w.heap.size, p, none⟩ (.int .u8 (k : Int))) w.heap.size 23 (shK (k + 1))) := by
        have := hA.out.set p (UInt8.ofNat k)
        rw [← hp, shK_set k hlt] at this
        have e : ((UInt8.ofNat k).toNat : Int) = (k : Int) := by simp; omega
        rw [e] at this
        rw [← hp]
        exact this
      have HW2 : Hid (Below w.heap.size w (wr.setCell ⟨w.heap.size, p, none⟩ (.int .u8 (k : Int)))) := hW.out.setCell (Nat.le_refl _) _
      have e1 : (16 : Int) + (k : Int) = (p : Int) := by omega
      have e2 : (k : Int) % 256 = (k : Int) := by omega
      have hp32 : (p : Int) < 32 := by omega
      clear hA hW hp
      go_wp2
      exact ⟨⟨k + 1, by omega, by go_num, HA2, HW2⟩, by simp [intOf]; omega⟩
    · have hki : ¬ (k : Int) < 16 := by omega
      have ek : k = 16 := by omega
      have HA : Hid (Arr wr w.heap.size 23 (shK 16)) := by have := hA.out; rw [ek] at this; exact this
      clear hA ek
      have kd : ∀ (W : World) (C : Array Value) (n c : Nat), (convert 24 24 (.slice (some ⟨W.heap.size, 0, none⟩) n c)).run Try.prog (W.alloc (.cells C 5)) = .ok (.slice (some ⟨W.heap.size, 0, none⟩) n c) (W.alloc (.cells C 5 (C.size, C.size + 1))) := fun W C n c =>
        Lib.run_convert_bytes_const (P := Try.prog) W 24 5 C n c Try.underlying24 Try.underlying5
      go_wp2_with (first | refine wpList_load_row rfl 23 _ rfl w.heap.size rfl 23 _ (0, 0) _ HA.out Try.underlying23 rfl (info_size hIK.out _ (shK_length 16)) ?_)
      have hB0 : Byt (wr.alloc (.cells #[.int .u8 97, .int .u8 98, .int .u8 99] 5 (3, 4))) (some ⟨wr.heap.size, 0, none⟩) 3 [97, 98, 99] := byt_lit _ [97, 98, 99] _ _ _ (3, 4) (heap_alloc_new wr _) rfl
      refine (sum_any (shK 16) _ 3 3 [97, 98, 99] _ (shK_length 16) hB0 (by omega) (by omega) (by unfold maxLen; omega)).mono ?_
      rintro e w2 ⟨rfl, hb2⟩
      clear hB0 kd
      obtain ⟨t0, t15, s0, s1, s15⟩ := shown_tags
      have hAl := tag_length (shK 16) [97, 98, 99]
      generalize tag (shK 16) [97, 98, 99] = A at t0 t15 hAl ⊢
      have hb2' : Below wr.heap.size wr w2 := ((Below.refl _ _).alloc (Nat.le_refl _) _).trans (hb2.mono (by simp))
      obtain ⟨W3, hW3⟩ : ∃ W3, w2.alloc (.cells (A.map bv).toArray 26) = W3 := ⟨_, rfl⟩
      have hst := run_store_arr w2 26 A 16 hAl (by kernel_rfl)
      rw [hW3] at hst
      have hb3 : Below wr.heap.size wr W3 := by rw [← hW3]; exact hb2'.alloc hb2'.size _
      have hA3 := HA.out.later hb3
      have hX3 : Arr W3 w2.heap.size 26 A := by rw [← hW3]; exact Arr.new w2 _ _
      obtain ⟨xa, hxa⟩ : ∃ xa, w2.heap.size = xa := ⟨_, rfl⟩
      have hxlt : w.heap.size < xa := by have := HA.out.lt; have := hb2'.size; omega
      rw [hxa] at hX3
      have HXa : Hid (w2.heap.size = xa) := hxa
      obtain ⟨hc0, hf0⟩ := hA3.at_ 0 (by rw [shK_length]; omega)
      have HA4 : Hid (Arr (W3.setCell ⟨w.heap.size, 0, none⟩ (.int .u8 1)) w.heap.size 23 ((shK 16).set 0 1)) := hA3.set 0 1
      have HX4 : Hid (Arr (W3.setCell ⟨w.heap.size, 0, none⟩ (.int .u8 1)) xa 26 A) := hX3.other (by omega) _ _
      have HW4 : Hid (Below w.heap.size w (W3.setCell ⟨w.heap.size, 0, none⟩ (.int .u8 1))) := (hW.out.trans (hb3.mono hW.out.size)).setCell (Nat.le_refl _) _
      have HT : Hid (at8 A 0 = 0 ∧ at8 A 15 = 15) := ⟨t0, t15⟩
      clear hb2 hb2' hb3 hA3 hX3 hW3 hW HA hxa t0 t15
      obtain ⟨W4, hW4⟩ : ∃ W4, W3.setCell ⟨w.heap.size, 0, none⟩ (.int .u8 1) = W4 := ⟨_, rfl⟩
      rw [hW4] at HA4 HX4 HW4
      go_wp2_with (first | (refine wpList_load_row rfl 23 _ rfl w.heap.size rfl 23 _ (0, 0) _ HA4.out Try.underlying23 rfl (info_size hIK.out _ (by rw [List.length_set]; exact shK_length 16)) ?_))
      have hB1 : Byt (W4.alloc (.cells #[.int .u8 1] 5)) (some ⟨W4.heap.size, 0, none⟩) 1 [1] := byt_lit _ [1] _ _ _ _ (heap_alloc_new W4 _) rfl
      refine (sum_any ((shK 16).set 0 1) _ 1 1 [1] _ (by rw [List.length_set]; exact shK_length 16) hB1 (by omega) (by omega) (by unfold maxLen; omega)).mono ?_
      rintro e w5 ⟨rfl, hb5⟩
      clear hB1 hst hW4 hc0 hf0
      have hBl := tag_length ((shK 16).set 0 1) [1]
      generalize tag ((shK 16).set 0 1) [1] = B at s0 s1 s15 hBl ⊢
      have hb5' : Below W4.heap.size W4 w5 := ((Below.refl _ _).alloc (Nat.le_refl _) _).trans (hb5.mono (by simp))
      have hst := run_store_arr w5 26 B 16 hBl (by kernel_rfl)
      obtain ⟨W6, hW6⟩ : ∃ W6, w5.alloc (.cells (B.map bv).toArray 26) = W6 := ⟨_, rfl⟩
      rw [hW6] at hst
      have hb6 : Below W4.heap.size W4 W6 := by rw [← hW6]; exact hb5'.alloc hb5'.size _
      have hX6 := HX4.out.later hb6
      have hY6 : Arr W6 w5.heap.size 26 B := by rw [← hW6]; exact Arr.new w5 _ _
      have HW6 : Hid (Below w.heap.size w W6) := HW4.out.trans (hb6.mono HW4.out.size)
      have x0 := (hX6.at_ 0 (by omega)).1
      have x15 := (hX6.at_ 15 (by omega)).1
      have y0 := (hY6.at_ 0 (by omega)).1
      have y1 := (hY6.at_ 1 (by omega)).1
      have y15 := (hY6.at_ 15 (by omega)).1
      rw [HT.out.1] at x0
      rw [HT.out.2] at x15
      rw [s0] at y0
      rw [s1] at y1
      rw [s15] at y15
      rw [← HXa.out] at x0 x15
      clear hb5 hb5' hb6 hX6 hY6 hW6 HX4 HA4 HW4 s0 s1 s15
      go_wp2
      go_ret
      exact ⟨rfl, HW6.out⟩
end Go.Proofs.Ytcnihgjibiidpaa
