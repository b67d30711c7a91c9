/- WordsBits: words are turned, and bytes held against each other, as the document says. For every word, number and two rows of bytes, without a condition. -/
import Derived.Test.YtompbbjoniggfaaRefX
namespace Go.Proofs.Ytompbbjoniggfaa.wordsBits
open Go.ChangeShapes Go.WideShapes Go.ChangeAt Go.RowKit
set_option linter.unusedVariables false

theorem u32_of (a : Int) (h : (Lit.int .u32 a).wf = true) : ∃ X : BitVec 32, a = (X.toNat : Int) := by
  have hb : 0 ≤ a ∧ a ≤ 4294967295 := by simpa [Lit.wf, IntKind.min, IntKind.max, IntKind.signed, IntKind.bits] using h
  exact ⟨BitVec.ofNat 32 a.toNat, by rw [BitVec.toNat_ofNat]; omega⟩

set_option maxHeartbeats 1000000 in
set_option maxRecDepth 100000 in
theorem walk (a0 : Int) (a1 : Int) (a2 : Option Addr) (len2 cap2 : Nat) (z2 : List Int) (a3 : Option Addr) (len3 cap3 : Nat) (z3 : List Int) (w : World)
    (w0 : (Lit.int .u32 a0).wf = true) (w1 : (Lit.int .i64 a1).wf = true) (w2 : IsRow .u8 w a2 len2 cap2 z2) (w3 : IsRow .u8 w a3 len3 cap3 z3) :
    Calls Try.prog 4 #[.int .u32 a0, .int .i64 a1, .slice a2 len2 cap2, .slice a3 len3 cap3] w fun e w' => e = .returned (.bool true) ∧ Below w.heap.size w w' := by
  obtain ⟨X, rfl⟩ := u32_of a0 w0
  obtain ⟨l, n, hnE0, hn1, hn2, hnc, hncm, hBl⟩ := cut_row w2 100
  have hnE : (if (100 : Int) < (len2 : Int) then (100 : Int) else (len2 : Int)) = (n : Int) := hnE0
  clear hnE0
  obtain ⟨m, k, hkE0, hk1, hk2, hkc, hkcm, hBm⟩ := cut_row w3 100
  have hkE : (if (100 : Int) < (len3 : Int) then (100 : Int) else (len3 : Int)) = (k : Int) := hkE0
  clear hkE0 w0 w1 w2 w3
  go_enter Try.func4, Try.ntmps4
  go_wp2_with fail
  refine (shown_any _).mono ?_
  rintro e w3 ⟨rfl, hb⟩
  have hB3 := hBl.later hb
  have hB4 := hBm.later hb
  go_wp2
  refine wp_region_sched' (G := Grows) (by kernel_rfl) Grows.refl Grows.trans (by kernel_rfl) [(0, true), (1, true), (2, true), (3, true), (5, true), (6, true), (4, false), (7, false), (8, true), (9, true), (10, true), (11, true), (12, true), (15, true), (16, true), (13, false), (14, true), (17, false), (18, true), (19, true), (20, true), (21, true), (22, true), (23, true), (25, true), (26, true), (27, true), (28, true), (29, true), (24, false), (30, true), (31, true), (32, true), (33, true), (34, true), (35, false), (36, true), (37, true)] rfl (by kernel_rfl) ?_
  intro KK hKK
  have hw4 : Below w.heap.size w w3.drew := hb.drew
  have hA : Byt w3.drew a2 n l := hB3.later (Below.refl _ _).drew
  have hC : Byt w3.drew a3 k m := hB4.later (Below.refl _ _).drew
  generalize w3.drew = W at hw4 hA hC ⊢
  clear hB3 hB4 hb
  iterate 6 (refine sched_take rfl (by rfl) (v := ?_) ?_ ?_; rotate_left; (intro w' hw'; go_simp; with_reducible rfl); go_simp)
  refine sched_call (f := 17) (args := #[.int .u32 (X.toNat : Int), .int .i64 a1]) rfl (by rfl) (by go_simp) ?_
  refine (rot_any _ _ _).mono ?_
  rintro e w' ⟨rfl, rfl⟩
  refine ⟨_, rfl, Grows.refl _, ?_⟩
  go_simp
  refine sched_call (f := 18) (args := #[.int .u32 (X.toNat : Int), .int .i64 a1]) rfl (by rfl) (by go_simp) ?_
  refine (refRot_any _ _ _).mono ?_
  rintro e w' ⟨rfl, rfl⟩
  refine ⟨_, rfl, Grows.refl _, ?_⟩
  go_simp
  iterate 7 (refine sched_take rfl (by rfl) (v := ?_) ?_ ?_; rotate_left; (intro w' hw'; go_simp; with_reducible rfl); go_simp)
  refine sched_call (f := 19) (args := #[.slice a2 n cap2, .slice a3 k cap3]) rfl (by rfl) (by go_simp) ?_
  refine (xor_any a2 a3 n cap2 k cap3 l m _ hA hC (by omega) (by omega)).mono ?_
  rintro e w5 ⟨g5, rfl, _, hb5, hB5⟩
  refine ⟨_, rfl, hb5, ?_⟩
  have hA5 := hA.later hb5
  have hC5 := hC.later hb5
  have hw5 : Below w.heap.size w w5 := hw4.trans (hb5.mono hw4.size)
  clear hA hC hb5 hw4
  obtain ⟨q, hq⟩ : ∃ q, min n k = q := ⟨_, rfl⟩
  rw [hq] at hB5 ⊢
  go_simp
  iterate 1 (refine sched_take rfl (by rfl) (v := ?_) ?_ ?_; rotate_left; (intro w' hw'; have q1 := conv_bytes w' a2 n cap2 l (hA5.on hw'); have q2 := conv_bytes w' a3 k cap3 m (hC5.on hw'); have q3 := conv_bytes w' (some ⟨g5, 0, none⟩) q q _ (hB5.on hw'); go_simp; with_reducible rfl); go_simp)
  refine sched_call (f := 20) (args := #[.slice a2 n cap2, .slice a3 k cap3]) rfl (by rfl) (by go_simp) ?_
  refine (refXor_any a2 a3 n cap2 k cap3 l m _ hA5 hC5 (by omega) (by omega)).mono ?_
  rintro e w6 ⟨a6, cap6, rfl, hb6, hB6⟩
  refine ⟨_, rfl, hb6, ?_⟩
  have hA6 := hA5.later hb6
  have hC6 := hC5.later hb6
  have hw6 : Below w.heap.size w w6 := hw5.trans (hb6.mono hw5.size)
  rw [hq] at hB6 ⊢
  clear hA5 hC5 hb6 hw5 hB5 hq
  go_simp
  iterate 1 (refine sched_take rfl (by rfl) (v := ?_) ?_ ?_; rotate_left; (intro w' hw'; have q1 := conv_bytes w' a2 n cap2 l (hA6.on hw'); have q2 := conv_bytes w' a3 k cap3 m (hC6.on hw'); have q3 := conv_bytes w' a6 q cap6 _ (hB6.on hw'); go_simp; with_reducible rfl); go_simp)
  iterate 5 (refine sched_take rfl (by rfl) (v := ?_) ?_ ?_; rotate_left; (intro w' hw'; go_simp; with_reducible rfl); go_simp)
  iterate 5 (refine sched_take rfl (by rfl) (v := ?_) ?_ ?_; rotate_left; (intro w' hw'; have q1 := conv_bytes w' a2 n cap2 l (hA6.on hw'); have q2 := conv_bytes w' a3 k cap3 m (hC6.on hw'); go_simp; with_reducible rfl); go_simp)
  refine sched_call (f := 21) (args := #[.slice a2 n cap2, .slice a3 k cap3]) rfl (by rfl) (by go_simp) ?_
  refine (same_any a2 a3 n cap2 k cap3 l m _ hA6 hC6).mono ?_
  rintro e w7 ⟨rfl, rfl⟩
  refine ⟨_, rfl, Grows.refl _, ?_⟩
  have hS := S_beq l m
  go_simp
  iterate 5 (refine sched_take rfl (by rfl) (v := ?_) ?_ ?_; rotate_left; (intro w' hw'; go_simp; with_reducible rfl); go_simp)
  refine sched_call (f := 21) (args := #[.slice a2 n cap2, .slice a2 n cap2]) rfl (by rfl) (by go_simp) ?_
  refine (same_any a2 a2 n cap2 n cap2 l l _ hA6 hA6).mono ?_
  rintro e w8 ⟨rfl, rfl⟩
  refine ⟨_, rfl, Grows.refl _, ?_⟩
  rw [show decide (l = l) = true by simp]
  go_simp
  iterate 2 (refine sched_take rfl (by rfl) (v := ?_) ?_ ?_; rotate_left; (intro w' hw'; go_simp; with_reducible rfl); go_simp)
  refine sched_done hKK ?_
  go_wp2
  go_ret
  exact ⟨rfl, hw6⟩
end Go.Proofs.Ytompbbjoniggfaa.wordsBits
