/- WordsPuts: numbers are bytes as the document says. For every row of bytes, size, number, order and place, without a condition. -/
import Derived.Test.YtompbbjoniggfaaRefG
namespace Go.Proofs.Ytompbbjoniggfaa.wordsPuts
open Go.ChangeShapes Go.WideShapes Go.ChangeAt Go.RowKit
set_option linter.unusedVariables false

/-- 'append(make([]byte, 0, 200), b...)' of at most a hundred bytes. -/
theorem append_room (W w4 : World) (a : Option Addr) (m cap : Nat) (l : List UInt8) (hB : Byt w4 a m l) (hnil : a = none → cap = 0) (hm : m ≤ 100)
    (hown : w4.ownsRow W.heap.size 5 1 (.slice (some ⟨W.heap.size, 0, none⟩) 0 200) 0 []) (hsz : W.heap.size ≤ w4.heap.size) :
    ∃ w5, (Builtin.append_ #[22, 22] 22 #[.slice (some ⟨W.heap.size, 0, none⟩) 0 200, .slice a m cap]).run Try.prog w4 = .ok (.slice (some ⟨W.heap.size, 0, none⟩) m 200) w5 ∧
      Byt w5 (some ⟨W.heap.size, 0, none⟩) m l ∧ Below W.heap.size w4 w5 := by
  obtain ⟨i0, hi, hz0, hz1, hz2⟩ := info_parts Try.infoU8
  have hl := hB.1
  cases a with
  | none =>
    have h0 : m = 0 := by
      rcases hB.2 with h | ⟨_, _, e, _⟩
      · exact h
      · cases e
    have hc0 := hnil rfl
    subst h0
    subst hc0
    obtain rfl : l = [] := List.eq_nil_of_length_eq_zero hl
    have hr := run_append_owned_none (P := Try.prog) w4 W.heap.size 22 22 5 i0 1 Try.underlying22 hi _ 0 [] hown
    exact ⟨w4, hr, ⟨rfl, .inl rfl⟩, Below.refl _ _⟩
  | some x =>
    obtain ⟨w5, hr, hown5, hgr⟩ := run_append_fits (P := Try.prog) w4 W.heap.size 22 22 5 i0 1 Try.underlying22 hi hz1 W.heap.size 0 200 [] hown x m cap (l.map bv) (by simpa using hl) (hB.cells x rfl) (bv_oneCell l) (by omega)
    rw [Nat.zero_add, List.nil_append] at hown5
    rw [Nat.zero_add] at hr
    exact ⟨w5, hr, Byt.ofOwn hown5, (Below.refl _ _).grown hgr hsz (by intro k hk; cases hk; exact Nat.le_refl _)⟩

/-- Both of them get the same. -/
theorem get_both (g m : Nat) (at_ size : Int) (big : Bool) (l : List UInt8) (hm : m ≤ 100) (ha : -9223372036854775808 ≤ at_ ∧ at_ ≤ 9223372036854775807) : ∃ (v : Int) (ok : Bool), ∀ w : World, Byt w (some ⟨g, 0, none⟩) m l →
    (Calls Try.prog 14 #[.slice (some ⟨g, 0, none⟩) m 200, .int .i64 at_, .int .i64 size, .bool big] w fun e w' => e = .returned (.tuple #[.int .u64 v, .bool ok]) ∧ w' = w) ∧
    (Calls Try.prog 15 #[.slice (some ⟨g, 0, none⟩) m 200, .int .i64 at_, .int .i64 size, .bool big] w fun e w' => e = .returned (.tuple #[.int .u64 v, .bool ok]) ∧ w' = w) := by
  by_cases h : 1 ≤ size ∧ size ≤ 8 ∧ 0 ≤ at_ ∧ at_ + size ≤ m
  · obtain ⟨s, rfl⟩ : ∃ s : Nat, size = (s : Int) := ⟨size.toNat, by omega⟩
    obtain ⟨t, rfl⟩ : ∃ s : Nat, at_ = (s : Int) := ⟨at_.toNat, by omega⟩
    exact ⟨(getV l big t s : Int), true, fun w hB => ⟨get_yes g 0 m 200 t s big l w (by unfold maxLen; omega) (by omega) hB (by omega) (by omega) (by omega), refGet_yes g 0 m 200 t s big l w (by unfold maxLen; omega) (by omega) hB (by omega) (by omega) (by omega)⟩⟩
  · exact ⟨0, false, fun w hB => ⟨get_no _ m 200 at_ size big w (by unfold maxLen; omega) ha h, refGet_no _ m 200 at_ size big w (by unfold maxLen; omega) ha h⟩⟩

set_option maxHeartbeats 2000000 in
set_option maxRecDepth 100000 in
theorem walk (a0 : Option Addr) (len0 cap0 : Nat) (z0 : List Int) (a1 : Int) (a2 : Int) (a3 : Bool) (a4 : Int) (w : World)
    (w0 : IsRow .u8 w a0 len0 cap0 z0) (w1 : (Lit.int .i64 a1).wf = true) (w2 : (Lit.int .u64 a2).wf = true) (w4 : (Lit.int .i64 a4).wf = true) :
    Calls Try.prog 3 #[.slice a0 len0 cap0, .int .i64 a1, .int .u64 a2, .bool a3, .int .i64 a4] w fun e w' => e = .returned (.bool true) ∧ Below w.heap.size w w' := by
  obtain ⟨n, rfl, hn⟩ := u64_of a2 w2
  have ha4 := i64_of a4 w4
  have hnil : a0 = none → cap0 = 0 := by
    rcases w0 with ⟨_, _, h, _⟩ | ⟨x, rfl, _⟩
    · intro _; exact h
    · intro h; cases h
  obtain ⟨l, m, hmE0, hm1, hm2, hlc, hcm, hBl⟩ := cut_row w0 100
  have hmE : (if (100 : Int) < (len0 : Int) then (100 : Int) else (len0 : Int)) = (m : Int) := hmE0
  have hmc : m ≤ cap0 := by omega
  obtain ⟨sz, hsz⟩ : ∃ sz : Nat, (sz : Int) = min (max a1 0) 8 := ⟨(min (max a1 0) 8).toNat, by omega⟩
  obtain ⟨n1, hn1, hn1b⟩ : ∃ n1 : Nat, IntKind.u64.wrap ((n : Int) + 1) = (n1 : Int) ∧ n1 < 18446744073709551616 := ⟨(n + 1) % 18446744073709551616, by rw [IntKind.wrap_u64]; omega, by omega⟩
  have HZ : Hid ((sz : Int) = min (max a1 0) 8) := hsz
  clear hmE0 w0 w1 w2 w4 hsz
  go_enter Try.func3, Try.ntmps3
  go_wp2_with fail
  refine (shown_any _).mono ?_
  rintro e w3 ⟨rfl, hb⟩
  go_wp2
  refine wp_region_sched' (G := Below w.heap.size) (by kernel_rfl) (Below.refl _) (fun _ _ _ => Below.trans) (by kernel_rfl) [(1, true), (2, true), (3, true), (4, true), (5, true), (0, false), (6, false), (7, true)] rfl (by kernel_rfl) ?_
  intro KK hKK
  have hw4 : Below w.heap.size w w3.drew := hb.drew
  have hA : Byt w3.drew a0 m l := (hBl.later hb).later (Below.refl _ _).drew
  generalize w3.drew = W at hw4 hA ⊢
  clear hb
  iterate 5 (refine sched_take rfl (by rfl) (v := ?_) ?_ ?_; rotate_left; (intro w' hw'; go_simp; with_reducible rfl); go_simp)
  obtain ⟨i0, hi, hz0, hz1, hz2⟩ := info_parts Try.infoU8
  obtain ⟨w4, hmk0, hown4, hgr4⟩ := run_make_own (P := Try.prog) W W.heap.size 22 5 i0 (.int .u8 0) 1 Try.underlying22 hi hz0 hz1 .i64 .i64 200 (by rw [hz2]; omega) (by unfold maxLen; omega) (Nat.le_refl _)
  have hmk : (Instr.makeSlice 22 (.int .i64 0) (.int .i64 200)).run Try.prog W = .ok (.slice (some ⟨W.heap.size, 0, none⟩) 0 200) w4 := hmk0
  have hb4 : Below W.heap.size W w4 := (Below.refl _ _).grown hgr4 (Nat.le_refl _) (by intro k hk; cases hk)
  obtain ⟨w5, hap, hB5, hb5⟩ := append_room W w4 a0 m cap0 l (hA.later hb4) hnil hm1 hown4 hb4.size
  have hw5 : Below w.heap.size w w5 := hw4.trans ((hb4.trans hb5).mono hw4.size)
  refine sched_val rfl (by rfl) (v := .slice (some ⟨W.heap.size, 0, none⟩) 0 200) (w' := w4) (by go_simp) (hb4.mono hw4.size) ?_
  have HAP : Hid (_) := hap
  clear hmk hmk0 hown4 hgr4 hap
  go_simp
  refine sched_append rfl (by rfl) rfl (by rfl) (by rfl) HAP.out (hb5.mono hw4.size) ?_
  go_simp
  iterate 1 (refine sched_take rfl (by rfl) (v := ?_) ?_ ?_; rotate_left; (intro w' hw'; go_simp; with_reducible rfl); go_simp)
  refine sched_done hKK ?_
  clear hA hb4 hb5 hw4 HAP hKK KK hi hz0 hz1 hz2
  generalize W.heap.size = g at hB5 ⊢
  obtain ⟨gv, gok, hget⟩ := get_both g m a4 a1 a3 l hm1 ha4
  have HGET : Hid (∀ w : World, Byt w (some ⟨g, 0, none⟩) m l →
    (Calls Try.prog 14 #[.slice (some ⟨g, 0, none⟩) m 200, .int .i64 a4, .int .i64 a1, .bool a3] w fun e w' => e = .returned (.tuple #[.int .u64 gv, .bool gok]) ∧ w' = w) ∧
    (Calls Try.prog 15 #[.slice (some ⟨g, 0, none⟩) m 200, .int .i64 a4, .int .i64 a1, .bool a3] w fun e w' => e = .returned (.tuple #[.int .u64 gv, .bool gok]) ∧ w' = w)) := hget
  clear hget
  have cw := conv_bytes w5 (some ⟨g, 0, none⟩) m 200 l hB5
  go_wp2_with fail
  refine (put_any (some ⟨g, 0, none⟩) m 200 a1 n a3 l w5 (by omega) hB5 sz HZ.out).mono ?_
  rintro e w6 ⟨g6, rfl, _, hb6, hB6⟩
  have hA6 := hB5.later hb6
  have hw6 : Below w.heap.size w w6 := hw5.trans (hb6.mono hw5.size)
  clear hb6 hw5 hB5 cw
  go_wp2_with fail
  refine (put_any (some ⟨g, 0, none⟩) m 200 a1 n1 a3 l w6 (by omega) hA6 sz HZ.out).mono ?_
  rintro e w7 ⟨g7, rfl, _, hb7, hB7⟩
  have hA7 := hA6.later hb7
  have hX7 := hB6.later hb7
  have hw7 : Below w.heap.size w w7 := hw6.trans (hb7.mono hw6.size)
  clear hb7 hw6 hA6 hB6
  go_wp2_with fail
  refine (HGET.out w7 hA7).1.mono ?_
  rintro e w8 ⟨rfl, rfl⟩
  go_wp2_with fail
  refine (HGET.out w8 hA7).2.mono ?_
  rintro e w9 ⟨rfl, rfl⟩
  go_wp2
  refine wp_region_sched' (G := Grows) (by kernel_rfl) Grows.refl Grows.trans (by kernel_rfl) [(0, true), (1, true), (2, true), (3, true), (4, true), (5, true), (6, true), (7, true), (8, false), (9, true), (10, true), (11, true), (12, true), (13, true), (14, true), (15, true), (16, true), (17, true), (18, true), (19, true), (20, false), (21, true), (22, true), (23, true), (24, true), (25, true), (26, true), (27, true), (28, true), (29, true), (30, true), (31, true), (32, true), (33, true), (34, true), (35, true), (36, true), (37, true), (38, true), (39, true), (40, true)] rfl (by kernel_rfl) ?_
  intro KK hKK
  have hw8 : Below w.heap.size w w9.drew := hw7.drew
  have hA : Byt w9.drew (some ⟨g, 0, none⟩) m l := hA7.later (Below.refl _ _).drew
  have hX : Byt w9.drew (some ⟨g6, 0, none⟩) (m + sz) (l ++ putB sz n a3) := hX7.later (Below.refl _ _).drew
  have hY : Byt w9.drew (some ⟨g7, 0, none⟩) (m + sz) (l ++ putB sz n1 a3) := hB7.later (Below.refl _ _).drew
  generalize w9.drew = W9 at hw8 hA hX hY ⊢
  clear hA7 hX7 hB7 hw7
  obtain ⟨X, hXe⟩ : ∃ X, l ++ putB sz n a3 = X := ⟨_, rfl⟩
  obtain ⟨Y, hYe⟩ : ∃ Y, l ++ putB sz n1 a3 = Y := ⟨_, rfl⟩
  have HXe : Hid (l ++ putB sz n a3 = X) := hXe
  have HYe : Hid (l ++ putB sz n1 a3 = Y) := hYe
  rw [hXe] at hX
  rw [hYe] at hY
  clear hXe hYe
  iterate 8 (refine sched_take rfl (by rfl) (v := ?_) ?_ ?_; rotate_left; (intro w' hw'; have q0 := conv_bytes w' (some ⟨g6, 0, none⟩) (m + sz) (m + sz) _ (hX.on hw'); go_simp; with_reducible rfl); go_simp)
  refine sched_call (f := 16) (args := #[.slice (some ⟨g, 0, none⟩) m 200, .int .i64 a1, .int .u64 (n : Int), .bool a3]) rfl (by rfl) (by go_simp) ?_
  refine (refPut_any (some ⟨g, 0, none⟩) m 200 a1 n hn a3 l W9 (by omega) hA (by intro h; cases h) sz HZ.out).mono ?_
  rw [HXe.out]
  rintro e wa ⟨aa, capa, rfl, hba, hBa⟩
  refine ⟨_, rfl, hba, ?_⟩
  have hAa := hA.later hba
  have hYa := hY.later hba
  have hwa : Below w.heap.size w wa := hw8.trans (hba.mono hw8.size)
  clear hba hA hY hX hw8
  go_simp
  iterate 1 (refine sched_take rfl (by rfl) (v := ?_) ?_ ?_; rotate_left; (intro w' hw'; have q0 := conv_bytes w' aa (m + sz) capa _ (hBa.on hw'); go_simp; with_reducible rfl); go_simp)
  iterate 4 (refine sched_take rfl (by rfl) (v := ?_) ?_ ?_; rotate_left; (intro w' hw'; go_simp; with_reducible rfl); go_simp)
  iterate 6 (refine sched_take rfl (by rfl) (v := ?_) ?_ ?_; rotate_left; (intro w' hw'; have q0 := conv_bytes w' (some ⟨g7, 0, none⟩) (m + sz) (m + sz) _ (hYa.on hw'); go_simp; with_reducible rfl); go_simp)
  refine sched_call (f := 16) (args := #[.slice (some ⟨g, 0, none⟩) m 200, .int .i64 a1, .int .u64 (n1 : Int), .bool a3]) rfl (by rfl) (by go_simp) ?_
  refine (refPut_any (some ⟨g, 0, none⟩) m 200 a1 n1 hn1b a3 l wa (by omega) hAa (by intro h; cases h) sz HZ.out).mono ?_
  rw [HYe.out]
  rintro e wb ⟨ab, capb, rfl, hbb, hBb⟩
  refine ⟨_, rfl, hbb, ?_⟩
  have hAb := hAa.later hbb
  have hwb : Below w.heap.size w wb := hwa.trans (hbb.mono hwa.size)
  clear hbb hAa hYa hBa hwa
  go_simp
  iterate 1 (refine sched_take rfl (by rfl) (v := ?_) ?_ ?_; rotate_left; (intro w' hw'; have q0 := conv_bytes w' ab (m + sz) capb _ (hBb.on hw'); go_simp; with_reducible rfl); go_simp)
  iterate 14 (refine sched_take rfl (by rfl) (v := ?_) ?_ ?_; rotate_left; (intro w' hw'; go_simp; with_reducible rfl); go_simp)
  iterate 5 (refine sched_take rfl (by rfl) (v := ?_) ?_ ?_; rotate_left; (intro w' hw'; have q0 := conv_bytes w' (some ⟨g, 0, none⟩) m 200 _ (hAb.on hw'); go_simp; with_reducible rfl); go_simp)
  refine sched_done hKK ?_
  go_wp2
  go_ret
  exact ⟨rfl, hwb⟩
end Go.Proofs.Ytompbbjoniggfaa.wordsPuts
