/- AeadStream: what is sealed is the stream, from its second block on. For every key, nonce and row of bytes, without a condition. -/
import Derived.Test.YtcnihgjibiidpaaAeadShown
import Derived.Test.YtcnihgjibiidpaaChaC
namespace Go.Proofs.Ytcnihgjibiidpaa.aeadStream
open Go.ChangeShapes Go.WideShapes Go.ChangeAt Go.RowKit
set_option linter.unusedVariables false

set_option maxHeartbeats 4000000 in
set_option maxRecDepth 100000 in
theorem walk (l0 : List UInt8) (l1 : List UInt8) (a2 : Option Addr) (len2 cap2 : Nat) (z2 : List Int) (w : World) (w0 : l0.length = 32) (w1 : l1.length = 12) (w2 : IsRow .u8 w a2 len2 cap2 z2) :
    Calls Try.prog 11 #[.agg (l0.map bv).toArray, .agg (l1.map bv).toArray, .slice a2 len2 cap2] w fun e w' => e = .returned (.bool true) ∧ Below w.heap.size w w' := by
  have hnil2 := row_nil w2
  obtain ⟨m, n, hnE20, hn1b, hn2b, hncb, hncmb, hBmb⟩ := cut_row w2 200
  have hnEb : (if (200 : Int) < (len2 : Int) then (200 : Int) else (len2 : Int)) = (n : Int) := hnE20
  have hlmb := hBmb.1
  have HB0b : Hid (Byt w a2 n m) := hBmb
  clear hnE20 w2 hBmb
  have IK : (Try.prog.info? 23).map (·.size) = some 32 := by kernel_rfl
  have hIK : Hid ((Try.prog.info? 23).map (·.size) = some (l0.map bv).toArray.size) := info_size IK l0 w0
  have II : (Try.prog.info? 40).map (·.size) = some 12 := by kernel_rfl
  have hII : Hid ((Try.prog.info? 40).map (·.size) = some (l1.map bv).toArray.size) := info_size II l1 w1
  clear IK II
  go_enter Try.func11, Try.ntmps11
  go_wp2_with fail
  refine (aeadShown_any _).mono ?_
  rintro e w4 ⟨rfl, hb4⟩
  have hbel0 : Below w.heap.size w ((w.alloc (.cells (l0.map bv).toArray 23)).alloc (.cells (l1.map bv).toArray 40)) := ((Below.refl _ _).alloc (Nat.le_refl _) _).alloc (by simp) _
  have HK4 : Hid (Arr w4 w.heap.size 23 l0) := ((Arr.new w _ l0).later ((Below.refl _ _).alloc (Nat.le_refl _) _)).later hb4
  have HI4 : Hid (Arr w4 (w.heap.size + 1) 40 l1) := by
    have := Arr.new (w.alloc (.cells (l0.map bv).toArray 23)) 40 l1
    rw [World.size_alloc] at this
    exact this.later hb4
  have HW4 : Hid (Below w.heap.size w w4) := hbel0.trans (hb4.mono hbel0.size)
  clear hb4 hbel0
  go_wp2_with (first | refine wpList_load_row rfl 23 _ rfl w.heap.size rfl 23 _ (0, 0) _ HK4.out Try.underlying23 rfl hIK.out ?_ | refine wpList_load_row rfl 40 _ rfl (w.heap.size + 1) rfl 40 _ (0, 0) _ HI4.out Try.underlying40 rfl hII.out ?_)
  refine (seal_any l0 l1 none 0 0 [] a2 n cap2 m _ w0 w1 ⟨rfl, .inl rfl⟩ (by intro _; rfl) (by omega) (by omega) (by unfold maxLen; omega) (HB0b.out.later HW4.out) hnil2 (by omega) (by omega) hncmb).mono ?_
  rintro e w5 ⟨v5, rfl, hb5, own5⟩
  obtain ⟨a5, c5, rfl, hB5, hc5, hm5, hn5⟩ := own_parts own5
  have hdr : Below w5.heap.size w5 w5.drew := (Below.refl _ _).drew
  have HK5 : Hid (Arr w5.drew w.heap.size 23 l0) := (HK4.out.later hb5).later hdr
  have HI5 : Hid (Arr w5.drew (w.heap.size + 1) 40 l1) := (HI4.out.later hb5).later hdr
  have HW5 : Hid (Below w.heap.size w w5.drew) := (HW4.out.trans (hb5.mono HW4.out.size)).drew
  have HX5 : Hid (Byt w5.drew a5 n (stm l0 1#32 l1 m)) := by
    have h1 := (hB5.cut (show n ≤ n + 16 by omega)).later hdr
    have h2 := sealB_take l0 l1 [] m
    rw [hlmb] at h2
    rw [h2] at h1
    exact h1
  have HM5 : Hid (Byt w5.drew a2 n m) := HB0b.out.later HW5.out
  have e16 : IntKind.i64.wrap ((n : Int) + 16) = ((n + 16 : Nat) : Int) := by rw [IntKind.wrap_i64]; omega
  obtain ⟨N, hN⟩ : ∃ N, n + 16 = N := ⟨_, rfl⟩
  rw [hN] at hc5 e16 ⊢
  have hnci : (n : Int) ≤ (c5 : Int) := by omega
  have hnN : (n : Int) ≤ (N : Int) := by omega
  clear hb5 own5 hB5 hm5 hn5 hdr HK4 HI4 HW4 HB0b
  obtain ⟨s, hs⟩ : ∃ s, stm l0 1#32 l1 m = s := ⟨_, rfl⟩
  have HSe : Hid (stm l0 1#32 l1 m = s) := hs
  rw [hs] at HX5
  clear hs hN
  go_wp2
  refine wp_region_sched' (G := Grows) (by kernel_rfl) Grows.refl Grows.trans (by kernel_rfl) [(0, true), (1, true), (2, true), (3, true), (4, true), (5, true), (6, true), (7, true), (8, true), (9, true), (10, true), (11, true), (12, true), (13, true), (14, true), (15, true), (16, true), (17, true), (18, false), (19, true), (20, true), (21, true), (22, true)] rfl (by kernel_rfl) ?_
  intro KK hKK
  generalize w5.drew = W at HK5 HI5 HW5 HX5 HM5 ⊢
  have hS1 := S_beq s s
  iterate 15 (refine sched_take rfl (by rfl) (v := ?_) ?_ ?_; rotate_left; (intro w' hw'; have q1 := conv_bytes w' a5 n c5 s (HX5.out.on hw'); clear hw'; go_simp; with_reducible rfl); go_simp)
  refine sched_take rfl (by rfl) (v := .agg (l0.map bv).toArray) (fun w' hw' => exec_load_row 23 _ rfl w.heap.size rfl 23 _ (0, 0) _ (HK5.out.later hw') Try.underlying23 rfl hIK.out) ?_
  go_simp
  refine sched_take rfl (by rfl) (v := .agg (l1.map bv).toArray) (fun w' hw' => exec_load_row 40 _ rfl (w.heap.size + 1) rfl 40 _ (0, 0) _ (HI5.out.later hw') Try.underlying40 rfl hII.out) ?_
  go_simp
  iterate 1 (refine sched_take rfl (by rfl) (v := ?_) ?_ ?_; rotate_left; (intro w' hw'; clear hw'; go_simp; with_reducible rfl); go_simp)
  refine sched_call (f := 22) (args := #[.agg (l0.map bv).toArray, .int .u32 1, .agg (l1.map bv).toArray, .slice a2 n cap2]) rfl (by rfl) (by go_simp) ?_
  refine (stream_any l0 l1 1#32 a2 n cap2 m _ w0 w1 HM5.out (by omega) (by omega) hncmb).mono ?_
  rintro e w6 ⟨a6, c6, rfl, hb6, hB6, _, _⟩
  refine ⟨_, rfl, hb6, ?_⟩
  rw [HSe.out] at hB6
  have HB6 : Hid (Byt w6 a6 n s) := hB6
  have HW6 : Hid (Below w.heap.size w w6) := HW5.out.trans (hb6.mono HW5.out.size)
  clear hb6 hB6 HK5 HI5 HW5 HX5 HM5
  go_simp
  iterate 4 (refine sched_take rfl (by rfl) (v := ?_) ?_ ?_; rotate_left; (intro w' hw'; have q1 := conv_bytes w' a6 n c6 s (HB6.out.on hw'); clear hw'; go_simp; with_reducible rfl); go_simp)
  refine sched_done hKK ?_
  go_wp2
  go_ret
  exact ⟨rfl, HW6.out⟩
end Go.Proofs.Ytcnihgjibiidpaa.aeadStream
