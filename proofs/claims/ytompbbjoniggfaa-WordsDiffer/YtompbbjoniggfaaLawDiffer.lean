/- WordsDiffer: bytes against each other, twice, are themselves; against themselves nothing. For every two rows of bytes, without a condition. -/
import Derived.Test.YtompbbjoniggfaaRefX
namespace Go.Proofs.Ytompbbjoniggfaa.wordsDiffer
open Go.ChangeShapes Go.WideShapes Go.ChangeAt Go.RowKit
set_option linter.unusedVariables false

theorem xorB_back : ∀ (l m : List UInt8), l.length ≤ m.length → xorB (xorB l m) m = l
  | [], _, _ => by simp [xorB]
  | a :: l, [], h => by simp at h
  | a :: l, b :: m, h => by
    have := xorB_back l m (by simpa using h)
    simp only [xorB, List.zipWith_cons_cons] at this ⊢
    rw [this, UInt8.xor_assoc, UInt8.xor_self, UInt8.xor_zero]
theorem xorB_self : ∀ (l : List UInt8), xorB l l = List.replicate l.length 0
  | [] => rfl
  | a :: l => by
    have := xorB_self l
    simp only [xorB, List.zipWith_cons_cons, List.length_cons, List.replicate_succ] at this ⊢
    rw [this, UInt8.xor_self]
theorem xorB_comm : ∀ (l m : List UInt8), xorB l m = xorB m l
  | [], m => by simp [xorB]
  | a :: l, [] => by simp [xorB]
  | a :: l, b :: m => by
    have := xorB_comm l m
    simp only [xorB, List.zipWith_cons_cons] at this ⊢
    rw [this, UInt8.xor_comm]

set_option maxHeartbeats 2000000 in
set_option maxRecDepth 100000 in
theorem walk (a0 : Option Addr) (len0 cap0 : Nat) (z0 : List Int) (a1 : Option Addr) (len1 cap1 : Nat) (z1 : List Int) (w : World) (w0 : IsRow .u8 w a0 len0 cap0 z0) (w1 : IsRow .u8 w a1 len1 cap1 z1) :
    Calls Try.prog 9 #[.slice a0 len0 cap0, .slice a1 len1 cap1] w fun e w' => e = .returned (.bool true) ∧ Below w.heap.size w w' := by
  obtain ⟨m, n, hnE0, hn1, hn2, hnc, hncm, hBm⟩ := cut_row w1 100
  have hnE : (if (100 : Int) < (len1 : Int) then (100 : Int) else (len1 : Int)) = (n : Int) := hnE0
  clear hnE0
  obtain ⟨l, k, hkE0, hk1, hk2, hkc, hkcm, hBl⟩ := cut_row w0 n
  have hkE : (if n < len0 then (n : Int) else (len0 : Int)) = (k : Int) := by
    rw [← hkE0]; split <;> split <;> omega
  clear hkE0
  go_enter Try.func9, Try.ntmps9
  go_wp2_with fail
  refine (shown_any _).mono ?_
  rintro e w3 ⟨rfl, hb⟩
  have hB3 := hBl.later hb
  have hB4 := hBm.later hb
  have hl := hBl.1
  have hlm := hBm.1
  have mn1 : min k n = k := Nat.min_eq_left hk1
  have mn2 : min k k = k := Nat.min_self k
  have mn3 : min n k = k := Nat.min_eq_right hk1
  go_wp2_with fail
  refine (xor_any a0 a1 k cap0 n cap1 l m w3 hB3 hB4 (by omega) (by omega)).mono ?_
  rw [mn1]
  rintro e w4 ⟨g4, rfl, _, hb4, hB5⟩
  have hA4 := hB3.later hb4
  have hC4 := hB4.later hb4
  have hw4 : Below w.heap.size w w4 := hb.trans (hb4.mono hb.size)
  clear hb hb4 hB3 hB4
  go_wp2_with fail
  refine (xor_any (some ⟨g4, 0, none⟩) a1 k k n cap1 (xorB l m) m w4 hB5 hC4 (by omega) (by omega)).mono ?_
  rw [mn1]
  rintro e w5 ⟨g5, rfl, _, hb5, hB6⟩
  rw [xorB_back l m (by omega)] at hB6
  have hA5 := hA4.later hb5
  have hC5 := hC4.later hb5
  have hw5 : Below w.heap.size w w5 := hw4.trans (hb5.mono hw4.size)
  clear hb5 hw4 hA4 hC4 hB5
  go_wp2
  refine sched_begin (G := Grows) (by kernel_rfl) Grows.refl Grows.trans (by kernel_rfl) [(0, true), (1, true), (2, true), (3, true), (4, true), (5, true), (6, true), (7, true), (8, true), (9, true), (10, true), (13, true), (14, true)] 18 ((Array.replicate 31 false).mapIdx fun i _ => i < 11 || i == 13 || i == 14) rfl (by kernel_rfl) ?_
  intro KL hKL
  have hwW : Below w.heap.size w w5.drew := hw5.drew
  have hA : Byt w5.drew a0 k l := hA5.later (Below.refl _ _).drew
  have hC : Byt w5.drew a1 n m := hC5.later (Below.refl _ _).drew
  have hX : Byt w5.drew (some ⟨g5, 0, none⟩) k l := hB6.later (Below.refl _ _).drew
  generalize w5.drew = W at hwW hA hC hX ⊢
  clear hA5 hC5 hB6 hw5
  iterate 13 (refine sched_take rfl (by rfl) (v := ?_) ?_ ?_; rotate_left; (intro w' hw'; have q0 := conv_bytes w' a0 k cap0 l (hA.on hw'); have q1 := conv_bytes w' (some ⟨g5, 0, none⟩) k k l (hX.on hw'); go_simp; with_reducible rfl); go_simp)
  refine hKL.out _ _ ?_
  clear hKL hX
  refine sched_two (i := 11) (j := 15) (by kernel_rfl) rfl (by rfl) rfl (by rfl) ?_ ?_
  · refine oper_call (f := 19) (args := #[.slice a0 k cap0, .slice a0 k cap0]) (by go_simp) ?_
    refine (xor_any a0 a0 k cap0 k cap0 l l _ hA hA (by omega) (by omega)).mono ?_
    rw [mn2, xorB_self l, hl]
    rintro e w6 ⟨g6, rfl, _, hb6, hB6⟩
    refine ⟨_, rfl, hb6, ?_⟩
    have hA6 := hA.later hb6
    have hC6 := hC.later hb6
    have hw6 : Below w.heap.size w w6 := hwW.trans (hb6.mono hwW.size)
    clear hb6 hA hC hwW
    refine sched_end Grows.refl Grows.trans (by kernel_rfl) [(12, true), (15, false), (16, true), (17, true), (18, true), (19, true), (20, true), (21, true), (24, true), (25, true), (22, false), (23, true), (26, false), (27, true), (28, true), (29, true), (30, true)] rfl (by kernel_rfl) ?_
    intro KK hKK
    go_simp
    iterate 1 (refine sched_take rfl (by rfl) (v := ?_) ?_ ?_; rotate_left; (intro w' hw'; have q0 := conv_bytes w' (some ⟨g6, 0, none⟩) k k _ (hB6.on hw'); go_simp; with_reducible rfl); go_simp)
    obtain ⟨w7, hmk, hown7, hb7⟩ := make_full w6 k (by omega)
    have hB7 : Byt w7 (some ⟨w6.heap.size, 0, none⟩) k (List.replicate k 0) := Byt.ofOwn (by simpa [bv] using hown7)
    have hA7 := hA6.later hb7
    have hC7 := hC6.later hb7
    have hw7 : Below w.heap.size w w7 := hw6.trans (hb7.mono hw6.size)
    refine sched_val rfl (by rfl) (v := .slice (some ⟨w6.heap.size, 0, none⟩) k k) (w' := w7) (by go_simp) hb7 ?_
    clear hmk hown7 hb7 hw6 hA6 hC6 hB6
    go_simp
    iterate 1 (refine sched_take rfl (by rfl) (v := ?_) ?_ ?_; rotate_left; (intro w' hw'; have q0 := conv_bytes w' (some ⟨w6.heap.size, 0, none⟩) k k _ (hB7.on hw'); go_simp; with_reducible rfl); go_simp)
    iterate 7 (refine sched_take rfl (by rfl) (v := ?_) ?_ ?_; rotate_left; (intro w' hw'; go_simp; with_reducible rfl); go_simp)
    refine sched_call (f := 19) (args := #[.slice a0 k cap0, .slice a1 n cap1]) rfl (by rfl) (by go_simp) ?_
    refine (xor_any a0 a1 k cap0 n cap1 l m _ hA7 hC7 (by omega) (by omega)).mono ?_
    rw [mn1]
    rintro e wt ⟨gt, rfl, _, hbt, hBt⟩
    refine ⟨_, rfl, hbt, ?_⟩
    have hAt := hA7.later hbt
    have hCt := hC7.later hbt
    have hwt : Below w.heap.size w wt := hw7.trans (hbt.mono hw7.size)
    clear hbt
    go_simp
    iterate 1 (refine sched_take rfl (by rfl) (v := ?_) ?_ ?_; rotate_left; (intro w' hw'; have q0 := conv_bytes w' (some ⟨gt, 0, none⟩) k k _ (hBt.on hw'); go_simp; with_reducible rfl); go_simp)
    refine sched_call (f := 19) (args := #[.slice a1 n cap1, .slice a0 k cap0]) rfl (by rfl) (by go_simp) ?_
    refine (xor_any a1 a0 n cap1 k cap0 m l _ hCt hAt (by omega) (by omega)).mono ?_
    rw [mn3, xorB_comm m l]
    rintro e wu ⟨gu, rfl, _, hbu, hBu⟩
    refine ⟨_, rfl, hbu, ?_⟩
    have hwu : Below w.heap.size w wu := hwt.trans (hbu.mono hwt.size)
    clear hbu hBt hAt hCt hwt
    go_simp
    iterate 1 (refine sched_take rfl (by rfl) (v := ?_) ?_ ?_; rotate_left; (intro w' hw'; have q0 := conv_bytes w' (some ⟨gu, 0, none⟩) k k _ (hBu.on hw'); go_simp; with_reducible rfl); go_simp)
    iterate 3 (refine sched_take rfl (by rfl) (v := ?_) ?_ ?_; rotate_left; (intro w' hw'; go_simp; with_reducible rfl); go_simp)
    refine sched_done hKK ?_
    go_wp2
    go_ret
    exact ⟨rfl, hwu⟩
  · obtain ⟨w7, hmk, hown7, hb7⟩ := make_full W k (by omega)
    have hB7 : Byt w7 (some ⟨W.heap.size, 0, none⟩) k (List.replicate k 0) := Byt.ofOwn (by simpa [bv] using hown7)
    have hA6 := hA.later hb7
    have hC6 := hC.later hb7
    have hw6 : Below w.heap.size w w7 := hwW.trans (hb7.mono hwW.size)
    refine oper_val (v := .slice (some ⟨W.heap.size, 0, none⟩) k k) (w' := w7) (by go_simp) ⟨hb7, ?_⟩
    clear hmk hown7 hb7 hA hC hwW
    refine sched_end Grows.refl Grows.trans (by kernel_rfl) [(16, true), (11, false), (12, true), (17, true), (18, true), (19, true), (20, true), (21, true), (24, true), (25, true), (22, false), (23, true), (26, false), (27, true), (28, true), (29, true), (30, true)] rfl (by kernel_rfl) ?_
    intro KK hKK
    go_simp
    iterate 1 (refine sched_take rfl (by rfl) (v := ?_) ?_ ?_; rotate_left; (intro w' hw'; have q0 := conv_bytes w' (some ⟨W.heap.size, 0, none⟩) k k _ (hB7.on hw'); go_simp; with_reducible rfl); go_simp)
    refine sched_call (f := 19) (args := #[.slice a0 k cap0, .slice a0 k cap0]) rfl (by rfl) (by go_simp) ?_
    refine (xor_any a0 a0 k cap0 k cap0 l l _ hA6 hA6 (by omega) (by omega)).mono ?_
    rw [mn2, xorB_self l, hl]
    rintro e w8 ⟨g6, rfl, _, hb6, hB6⟩
    refine ⟨_, rfl, hb6, ?_⟩
    have hA7 := hA6.later hb6
    have hC7 := hC6.later hb6
    have hw7 : Below w.heap.size w w8 := hw6.trans (hb6.mono hw6.size)
    clear hb6 hA6 hC6 hw6 hB7
    go_simp
    iterate 1 (refine sched_take rfl (by rfl) (v := ?_) ?_ ?_; rotate_left; (intro w' hw'; have q0 := conv_bytes w' (some ⟨g6, 0, none⟩) k k _ (hB6.on hw'); go_simp; with_reducible rfl); go_simp)
    iterate 7 (refine sched_take rfl (by rfl) (v := ?_) ?_ ?_; rotate_left; (intro w' hw'; go_simp; with_reducible rfl); go_simp)
    refine sched_call (f := 19) (args := #[.slice a0 k cap0, .slice a1 n cap1]) rfl (by rfl) (by go_simp) ?_
    refine (xor_any a0 a1 k cap0 n cap1 l m _ hA7 hC7 (by omega) (by omega)).mono ?_
    rw [mn1]
    rintro e wt ⟨gt, rfl, _, hbt, hBt⟩
    refine ⟨_, rfl, hbt, ?_⟩
    have hAt := hA7.later hbt
    have hCt := hC7.later hbt
    have hwt : Below w.heap.size w wt := hw7.trans (hbt.mono hw7.size)
    clear hbt
    go_simp
    iterate 1 (refine sched_take rfl (by rfl) (v := ?_) ?_ ?_; rotate_left; (intro w' hw'; have q0 := conv_bytes w' (some ⟨gt, 0, none⟩) k k _ (hBt.on hw'); go_simp; with_reducible rfl); go_simp)
    refine sched_call (f := 19) (args := #[.slice a1 n cap1, .slice a0 k cap0]) rfl (by rfl) (by go_simp) ?_
    refine (xor_any a1 a0 n cap1 k cap0 m l _ hCt hAt (by omega) (by omega)).mono ?_
    rw [mn3, xorB_comm m l]
    rintro e wu ⟨gu, rfl, _, hbu, hBu⟩
    refine ⟨_, rfl, hbu, ?_⟩
    have hwu : Below w.heap.size w wu := hwt.trans (hbu.mono hwt.size)
    clear hbu hBt hAt hCt hwt
    go_simp
    iterate 1 (refine sched_take rfl (by rfl) (v := ?_) ?_ ?_; rotate_left; (intro w' hw'; have q0 := conv_bytes w' (some ⟨gu, 0, none⟩) k k _ (hBu.on hw'); go_simp; with_reducible rfl); go_simp)
    iterate 3 (refine sched_take rfl (by rfl) (v := ?_) ?_ ?_; rotate_left; (intro w' hw'; go_simp; with_reducible rfl); go_simp)
    refine sched_done hKK ?_
    go_wp2
    go_ret
    exact ⟨rfl, hwu⟩
end Go.Proofs.Ytompbbjoniggfaa.wordsDiffer
