/- The walk over the law's own 'shown': what must be in any case is. -/
import Derived.Test.YtompbbjoniggfaaWalkE
import Derived.Lib.SlBytesConst
namespace Go.Proofs.Ytompbbjoniggfaa
open Go.RowKit

theorem byt_lit (w : World) (l : List UInt8) (b : Nat) (cs : Array Value) (e : TypeId) (fr : Nat × Nat) (h : w.heap[b]? = some (.cells cs e fr)) (hc : cs = (l.map bv).toArray) : Byt w (some ⟨b, 0, none⟩) l.length l := by
  refine ⟨rfl, .inr ⟨b, 0, rfl, fun i hi => ?_⟩⟩
  rw [cell_of_row w b (0 + i) cs e fr h, Nat.zero_add, hc, at8_get l i hi]
  simp [bv, hi]

theorem Fr.from_ {w w' : World} {qb : Nat} {a a' : Option Addr} (h : Fr w w' qb a a') {B : Nat} (hB : B ≤ w.heap.size) (ha : ∀ j, blockOf a = some j → B ≤ j) : ∀ j, blockOf a' = some j → B ≤ j := by
  intro j hj
  rcases h.fresh with e | e
  · exact ha j (by rw [← e]; exact hj)
  · have := e j hj; omega

theorem rot_shown (w : World) : Calls Try.prog 17 #[.int .u32 2147483649, .int .i64 1] w fun e w' => e = .returned (.int .u32 3) ∧ w' = w := by
  have h := rot_any 0x80000001#32 1 w
  have e1 : (((0x80000001#32).toNat : Nat) : Int) = 2147483649 := by decide
  have e2 : ((rotl 0x80000001#32 1).toNat : Int) = 3 := by decide
  rw [e1, e2] at h
  exact h
def digits : List UInt8 := [49, 50, 51, 52, 53, 54, 55, 56, 57]
theorem crc_shown (b : Nat) (w : World) (hB : Byt w (some ⟨b, 0, none⟩) 9 digits) : Calls Try.prog 22 #[.slice (some ⟨b, 0, none⟩) 9 9] w fun e w' => e = .returned (.int .u32 3421780262) ∧ w' = w := by
  have h := crc_any (some ⟨b, 0, none⟩) 9 9 digits w hB (by unfold maxLen; omega)
  have e2 : ((crcOf digits).toNat : Int) = 3421780262 := by decide +kernel
  rw [e2] at h
  exact h

set_option maxHeartbeats 800000 in
theorem shown_any (w : World) : Calls Try.prog 12 #[] w fun e w' => e = .returned (.bool true) ∧ Below w.heap.size w w' := by
  go_enter Try.func12, Try.ntmps12
  go_wp2_with fail
  have hB1 : Byt (w.alloc (.cells #[.int .u8 1, .int .u8 2, .int .u8 3] 5)) (some ⟨w.heap.size, 0, none⟩) 3 [1, 2, 3] :=
    byt_lit _ [1, 2, 3] w.heap.size _ _ _ (heap_alloc_new w _) rfl
  refine (get_yes w.heap.size 0 3 3 1 2 false [1, 2, 3] (w.alloc (.cells #[.int .u8 1, .int .u8 2, .int .u8 3] 5)) (by unfold maxLen; omega) (by omega) hB1 (by omega) (by omega) (by omega)).mono ?_
  rintro e w1 ⟨rfl, rfl⟩
  rw [show getV [1, 2, 3] false 1 2 = 770 by decide]
  go_wp2_with fail
  refine (new_any 1 _ 1 (by decide)).mono ?_
  rintro e w1 ⟨rfl, hb1, hsz1, hq1⟩
  simp only [World.size_alloc] at hb1 hsz1 hq1
  have hb1' : Below w.heap.size w w1 := ((Below.refl _ _).alloc (Nat.le_refl _) _).trans (hb1.mono (by omega))
  have Hs1 : Hid (w1.heap.size = w.heap.size + 1 + 1) := hsz1
  clear hb1 hsz1
  go_wp2_with fail
  refine (push_yes (w.heap.size + 1) none 1 7 [] w1 hq1 (by decide) (by decide)).mono ?_
  rintro e w2 ⟨rfl, a2, hq2, hf2⟩
  have hB : w.heap.size ≤ w1.heap.size := hb1'.size
  have ha2 := hf2.from_ (B := w.heap.size) hB (by intro j hj; simp [blockOf] at hj)
  have hb2 : Below w.heap.size w w2 := hb1'.trans (hf2.below hB (by omega) (by intro j hj; simp [blockOf] at hj))
  clear hf2 hq1 hb1'
  go_wp2_with fail
  refine (push_no (w.heap.size + 1) a2 1 8 [7] w2 hq2 (by decide)).mono ?_
  rintro e w3 ⟨rfl, hq3, hf3⟩
  have hb3 : Below w.heap.size w w3 := hb2.trans (hf3.below hb2.size (by omega) ha2)
  clear hf3 hq2 hb2
  go_wp2_with fail
  refine (pop_yes (w.heap.size + 1) a2 1 7 [] w3 hq3).mono ?_
  rintro e w4 ⟨rfl, a4, hq4, hf4⟩
  have hb4 : Below w.heap.size w w4 := hb3.trans (hf4.below hb3.size (by omega) ha2)
  clear hf4 hq3 hb3
  go_wp2_with fail
  refine (pop_no (w.heap.size + 1) a4 1 w4 hq4).mono ?_
  rintro e w5 ⟨rfl, rfl⟩
  clear hq4
  go_wp2_with fail
  refine (put_any none 0 0 2 258 true [] w5 (by omega) ⟨rfl, .inl rfl⟩ 2 (by decide)).mono ?_
  rintro e w6 ⟨g6, rfl, _, hb6, hB6⟩
  have hcv : (convert 22 9 (.slice (some ⟨g6, 0, none⟩) 2 2)).run Try.prog w6 = .ok (.string { data := #[1, 2] }) w6 := conv_bytes w6 (some ⟨g6, 0, none⟩) 2 2 [1, 2] hB6
  have hb7 : Below w.heap.size w w6 := hb4.trans (hb6.mono hb4.size)
  have kc := fun (w : World) (C : Array Value) (n c : Nat) => Lib.run_convert_bytes_const (P := Try.prog) w 22 5 C n c Try.underlying22 Try.underlying5
  clear hb6 hB6 hb4
  rw [show (0 : Nat) + 2 = 2 from rfl]
  go_wp2_with fail
  refine (crc_shown w6.heap.size _ (byt_lit _ digits w6.heap.size _ _ _ (heap_alloc_new w6 _) rfl)).mono ?_
  rintro e w7 ⟨rfl, hw7⟩
  have hb8 : Below w.heap.size w w7 := by rw [hw7]; exact hb7.alloc hb7.size _
  have kd : ∀ (w : World) (O : Obj) (C : Array Value) (n c : Nat), (convert 22 22 (.slice (some ⟨w.heap.size + 1, 0, none⟩) n c)).run Try.prog ((w.alloc O).alloc (.cells C 5)) = .ok (.slice (some ⟨w.heap.size + 1, 0, none⟩) n c) ((w.alloc O).alloc (.cells C 5 (C.size, C.size + 1))) := by
    intro w O C n c
    have := kc (w.alloc O) C n c
    simpa only [World.size_alloc] using this
  clear hw7 hb7 hcv
  go_wp2_with fail
  refine (rot_shown _).mono ?_
  rintro e w8 ⟨rfl, hw8⟩
  subst hw8
  go_wp2_with fail
  refine (same_any _ _ 1 1 1 1 [97] [97] _ ?_ ?_).mono ?_
  · exact byt_lit _ [97] w8.heap.size #[.int .u8 97] 5 (1, 2) (by rw [Below.heap_alloc _ _ _ (by simp)]; exact heap_alloc_new w8 _) rfl
  · exact byt_lit _ [97] (w8.heap.size + 1) #[.int .u8 97] 5 (1, 2) (by have := heap_alloc_new (w8.alloc (.cells #[.int .u8 97] 5 (1, 2))) (.cells #[.int .u8 97] 5 (1, 2)); simpa using this) rfl
  rintro e w9 ⟨rfl, hw9⟩
  have hb9 : Below w.heap.size w w9 := by rw [hw9]; exact (hb8.alloc hb8.size _).alloc (by have := hb8.size; simp; omega) _
  clear hw9 hb8
  rw [show decide (([97] : List UInt8) = [97]) = true by decide]
  go_wp2_with fail
  refine (same_any _ _ 1 1 0 0 [97] [] _ ?_ ?_).mono ?_
  · exact byt_lit _ [97] w9.heap.size #[.int .u8 97] 5 (1, 2) (heap_alloc_new w9 _) rfl
  · exact ⟨rfl, .inl rfl⟩
  rintro e w10 ⟨rfl, hw10⟩
  have hb10 : Below w.heap.size w w10 := by rw [hw10]; exact hb9.alloc hb9.size _
  clear hw10 hb9
  rw [show decide (([97] : List UInt8) = []) = false by decide]
  go_wp2
  go_ret
  exact ⟨rfl, hb10⟩
end Go.Proofs.Ytompbbjoniggfaa
