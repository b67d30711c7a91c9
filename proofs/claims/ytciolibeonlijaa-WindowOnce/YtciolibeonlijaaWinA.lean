/- The walk over the landed window: Fresh, Take, Top (stage 11). -/
import Derived.Test.YtciolibeonlijaaFrameA
import Derived.Test.YtciolibeonlijaaAppW
import Derived.Test.YtciolibeonlijaaSchedE
import Derived.Test.YtciolibeonlijaaMathWin
namespace Go.Proofs.Ytciolibeonlijaa
set_option linter.unusedVariables false
set_option maxRecDepth 100000
open Go.RowKit

/-- A window's two numbers, as they lie. -/
structure WnIs (W : World) (g T B : Nat) : Prop where
  row : W.heap[g]? = some (.cells #[.int .u64 (T : Int), .int .u64 (B : Int)] 27 (0, 0))
  ht : T < 18446744073709551616
  hb : B < 18446744073709551616
section
variable {W W' : World} {g T B : Nat}
theorem WnIs.lt (h : WnIs W g T B) : g < W.heap.size := (Array.getElem?_eq_some_iff.1 h.row).1
theorem WnIs.kept (h : WnIs W g T B) (e : W'.heap[g]? = W.heap[g]?) : WnIs W' g T B := ⟨by rw [e]; exact h.row, h.ht, h.hb⟩
theorem WnIs.c0 (h : WnIs W g T B) : W.cell? ⟨g, 0, none⟩ = some (.int .u64 (T : Int)) := by rw [cell_of_row W g 0 _ _ (0, 0) h.row]; rfl
theorem WnIs.c1 (h : WnIs W g T B) : W.cell? ⟨g, 1, none⟩ = some (.int .u64 (B : Int)) := by rw [cell_of_row W g 1 _ _ (0, 0) h.row]; rfl
theorem WnIs.set0 (h : WnIs W g T B) (n : Nat) (hn : n < 18446744073709551616) : WnIs (W.setCell ⟨g, 0, none⟩ (.int .u64 (n : Int))) g n B := by
  refine ⟨?_, hn, h.hb⟩
  rw [heap_setCell_same W g 0 _ _ _ h.row]
  rfl
theorem WnIs.set1 (h : WnIs W g T B) (n : Nat) (hn : n < 18446744073709551616) : WnIs (W.setCell ⟨g, 1, none⟩ (.int .u64 (n : Int))) g T n := by
  refine ⟨?_, h.ht, hn⟩
  rw [heap_setCell_same W g 1 _ _ _ h.row]
  rfl
/-- One block alone may have changed, and none has come. -/
def Only (g : Nat) (W W' : World) : Prop := W.grownBy W' (some g) ∧ W'.heap.size = W.heap.size
theorem Only.refl (g : Nat) (W : World) : Only g W W := ⟨grownBy_refl _ _, rfl⟩
theorem Only.trans {g : Nat} {A B C : World} (h : Only g A B) (k : Only g B C) : Only g A C := ⟨World.grownBy.trans h.1 k.1, by rw [k.2, h.2]⟩
theorem Only.drew (g : Nat) (W : World) : Only g W W.drew := ⟨grownBy_drew _ _, rfl⟩
theorem Only.setCell (g i : Nat) (W : World) (v : Value) : Only g W (W.setCell ⟨g, i, none⟩ v) :=
  ⟨⟨rfl, rfl, rfl, by simp, fun k _ hne => heap_setCell_other W ⟨g, i, none⟩ k v (fun e => hne (by rw [e]))⟩, by simp⟩
theorem WnIs.fr (h : WnIs W g T B) (i : Nat) : W.frozen? ⟨g, i, none⟩ = false := frozen_of_row W g i _ _ h.row
end

/-- A window in its block, which has taken these numbers. -/
def WiIs (W : World) (g : Nat) (L : List Nat) : Prop := ∃ T B, WnIs W g T B ∧ WBits T B L
theorem WiIs.lt {W : World} {g : Nat} {L : List Nat} (h : WiIs W g L) : g < W.heap.size := by obtain ⟨T, B, h, _⟩ := h; exact h.lt
theorem WiIs.kept {W W' : World} {g : Nat} {L : List Nat} (h : WiIs W g L) (e : W'.heap[g]? = W.heap[g]?) : WiIs W' g L := by obtain ⟨T, B, h, k⟩ := h; exact ⟨T, B, h.kept e, k⟩

set_option maxHeartbeats 1000000 in
theorem wfresh_any (g : Nat) (L : List Nat) (n : Nat) (w : World) (h : WiIs w g L) (hn : n < 18446744073709551616) :
    Calls Try.prog 13 #[.pointer (some ⟨g, 0, none⟩), .int .u64 (n : Int)] w fun e w' => e = .returned (.bool (wFresh L n)) ∧ w' = w := by
  obtain ⟨T, B, h, hB⟩ := h
  have HF : Hid (_) := hB.fresh n
  have c0 := h.c0
  have c1 := h.c1
  have hT := h.ht
  by_cases hlt : T < n
  · go_enter Try.func13, Try.ntmps13
    go_wp2
    go_ret
    have e : ((n : Int) != 18446744073709551615) = wFresh L n := by
      rw [← HF.out, if_pos hlt, Bool.eq_iff_iff]
      simp
      omega
    exact ⟨congrArg (fun b => Ending.returned (.bool b)) e, rfl⟩
  · have HZ : Hid (_) := bit_zero B (T - n) h.hb
    obtain ⟨d, hd⟩ : ∃ d, T - n = d := ⟨_, rfl⟩
    have hw : IntKind.u64.wrap ((T : Int) - (n : Int)) = (d : Int) := by rw [IntKind.wrap_u64]; omega
    rw [hd] at HZ HF
    by_cases h64 : d < 64
    · have hm : min d 64 = d := by omega
      go_enter Try.func13, Try.ntmps13
      go_wp2
      go_ret
      have e : (bits BinOp.and IntKind.u64 ((B : Int) / 2 ^ d) 1 == 0) = wFresh L n := by rw [← HF.out, if_neg hlt, HZ.out, decide_eq_true h64, Bool.true_and]
      exact ⟨congrArg (fun b => Ending.returned (.bool b)) e, rfl⟩
    · go_enter Try.func13, Try.ntmps13
      go_wp2
      go_ret
      have e : false = wFresh L n := by rw [← HF.out, if_neg hlt, decide_eq_false h64, Bool.false_and]
      exact ⟨congrArg (fun b => Ending.returned (.bool b)) e, rfl⟩

theorem top_two {P : Program} {fn : Func} {p q : Tmp} (h : fn.results = #[.tmp p, .tmp q]) (tmps : Array Value) (w : World) (v u : Value) (hp : tmps.getD p undef = v) (hq : tmps.getD q undef = u) : (results fn tmps).run P w = .ok (.tuple #[v, u]) w := by
  have hp' : tmps[p]?.getD undef = v := by simpa using hp
  have hq' : tmps[q]?.getD undef = u := by simpa using hq
  simp [results, h, hp', hq']
set_option maxHeartbeats 1000000 in
theorem wtop_any (g : Nat) (L : List Nat) (w : World) (h : WiIs w g L) :
    Calls Try.prog 11 #[.pointer (some ⟨g, 0, none⟩)] w fun e w' => e = .returned (.tuple #[.int .u64 (wTop L : Int), .bool (decide (L ≠ []))]) ∧ Below w.heap.size w w' := by
  obtain ⟨T, B, h, hB⟩ := h
  have ht := hB.top
  have hz : (decide (L ≠ [])) = ((B : Int) != 0) := by
    rw [Bool.eq_iff_iff]
    simp [← hB.zero]
  rw [hz, ← ht]
  clear ht hz hB
  go_enter Try.func11, Try.ntmps11
  go_wp2
  refine wp_region_sched' (G := Stays) (by kernel_rfl) Stays.refl Stays.trans (by kernel_rfl) [(0, true), (1, true), (2, true), (3, true), (4, true), (5, true), (6, true), (7, true), (8, true), (9, true), (10, true)] rfl (by kernel_rfl) ?_
  intro KK hKK
  have hW1 := h.kept (W' := w.drew) rfl
  have hb : Below w.heap.size w w.drew := (Below.refl _ _).drew
  generalize w.drew = W1 at hW1 hb ⊢
  have d0 := hW1.c0
  have d1 := hW1.c1
  iterate 11 (refine sched_take rfl (by rfl) (v := ?_) ?_ ?_; rotate_left; (intro w2 hw2; cases hw2; go_simp; with_reducible rfl); go_simp)
  refine sched_done hKK ?_
  go_wp2
  go_ret2
  exact ⟨rfl, hb⟩

set_option maxHeartbeats 1000000 in
theorem wtake_any (g : Nat) (L : List Nat) (n : Nat) (w : World) (h : WiIs w g L) (hn : n < 18446744073709551616) :
    Calls Try.prog 9 #[.pointer (some ⟨g, 0, none⟩), .int .u64 (n : Int)] w fun e w' => e = .returned (.bool (wFresh L n)) ∧ WiIs w' g (wTake L n) ∧ Only g w w' := by
  obtain ⟨T, B, hW, hB⟩ := id h
  have c0 := hW.c0
  have c1 := hW.c1
  have hT := hW.ht
  cases hf : wFresh L n with
  | false =>
    go_enter Try.func9, Try.ntmps9
    go_wp2_with fail
    refine (wfresh_any g L n w h hn).mono ?_
    rintro e w' ⟨rfl, rfl⟩
    rw [hf]
    go_wp2_with fail
    go_ret
    refine ⟨rfl, ?_, Only.refl _ _⟩
    unfold wTake
    rw [hf]
    exact h
  | true =>
    by_cases hlt : T < n
    · obtain ⟨k, hk⟩ : ∃ k, n - T = k := ⟨_, rfl⟩
      have hab := hB.above n hlt hf hn
      rw [hk] at hab
      obtain ⟨B1, hB1⟩ : ∃ B1, B * 2 ^ (min k 64) % 18446744073709551616 = B1 := ⟨_, rfl⟩
      have hB1l : B1 < 18446744073709551616 := by omega
      rw [hB1] at hab
      have HBB : Hid (WBits n (B1 ||| 1) (wTake L n) ∧ B1 ||| 1 < 18446744073709551616) := ⟨hab, hab.ltB⟩
      have HS : Hid (IntKind.u64.wrap ((B : Int) * 2 ^ (min k 64)) = (B1 : Int)) := by
        rw [IntKind.wrap_u64, ← hB1]
        show _ = _
        rw [Int.natCast_emod, Int.natCast_mul, Int.natCast_pow]
        rfl
      have HR : Hid (bits .or .u64 (B1 : Int) (IntKind.u64.wrap (2 ^ (min (IntKind.u64.wrap 0).toNat 64))) = ((B1 ||| 1 : Nat) : Int)) := or_val64 B1 1 hB1l (by decide)
      clear hab
      go_enter Try.func9, Try.ntmps9
      go_wp2_with fail
      refine (wfresh_any g L n w h hn).mono ?_
      rintro e w' ⟨rfl, rfl⟩
      rw [hf]
      go_wp2_with fail
      refine wp_region_last (G := Stays) (by kernel_rfl) Stays.refl Stays.trans (by kernel_rfl) [(0, true), (1, true), (2, true), (3, true), (4, true), (5, true), (6, true), (7, true), (8, true), (9, true), (10, true), (11, true), (12, true)] 13 _ rfl ((Array.replicate 14 false).mapIdx fun i _ => i < 13) rfl (by kernel_rfl) (by kernel_rfl) (by kernel_rfl) (by kernel_rfl) ?_
      intro KK hKK
      have hW1 := hW.kept (W' := w'.drew) rfl
      have hO1 := Only.drew g w'
      have hd : IntKind.u64.wrap ((n : Int) - (T : Int)) = (k : Int) := by rw [IntKind.wrap_u64]; omega
      generalize w'.drew = W1 at hW1 hO1 ⊢
      have d0 := hW1.c0
      have d1 := hW1.c1
      have df := hW1.fr 1
      clear c0 c1
      iterate 13 (refine sched_take rfl (by rfl) (v := ?_) ?_ ?_; rotate_left; (intro w2 hw2; cases hw2; go_simp; with_reducible rfl); go_simp)
      refine hKK.out _ _ (W1.setCell ⟨g, 1, none⟩ (.int .u64 (B1 : Int))) (by rfl) (by go_simp; rw [HS.out]) ?_
      have hW2 := hW1.set1 B1 hB1l
      have hO2 := hO1.trans (Only.setCell g 1 W1 (.int .u64 (B1 : Int)))
      generalize World.setCell W1 _ _ = W2 at hW2 hO2 ⊢
      clear d0 d1 df hW1 hO1
      have df := hW2.fr 0
      have d0 := hW2.c0
      go_wp2_with fail
      have hW3 := hW2.set0 n hn
      have hO3 := hO2.trans (Only.setCell g 0 W2 (.int .u64 (n : Int)))
      generalize World.setCell W2 _ _ = W3 at hW3 hO3 ⊢
      clear df d0 hW2 hO2
      refine wp_region_last (G := Stays) (by kernel_rfl) Stays.refl Stays.trans (by kernel_rfl) [(0, true), (1, true), (2, true), (3, true), (4, true), (5, true), (6, true), (7, true), (8, true), (9, true), (10, true), (11, true), (12, true), (13, true)] 14 _ rfl ((Array.replicate 15 false).mapIdx fun i _ => i < 14) rfl (by kernel_rfl) (by kernel_rfl) (by kernel_rfl) (by kernel_rfl) ?_
      intro KK6 hKK6
      have hW6 := hW3.kept (W' := World.drew W3) rfl
      have hO6 := hO3.trans (Only.drew g W3)
      generalize World.drew W3 = W6 at hW6 hO6 ⊢
      have d0 := hW6.c0
      have d1 := hW6.c1
      have df := hW6.fr 1
      iterate 14 (refine sched_take rfl (by rfl) (v := ?_) ?_ ?_; rotate_left; (intro w2 hw2; cases hw2; go_simp; with_reducible rfl); go_simp)
      refine hKK6.out _ _ (W6.setCell ⟨g, 1, none⟩ (.int .u64 ((B1 ||| 1 : Nat) : Int))) (by rfl) (by go_simp; rw [HR.out]) ?_
      have hW7 := hW6.set1 (B1 ||| 1) HBB.out.2
      have hO7 := hO6.trans (Only.setCell g 1 W6 (.int .u64 ((B1 ||| 1 : Nat) : Int)))
      generalize World.setCell W6 _ _ = W7 at hW7 hO7 ⊢
      clear d0 d1 df hW6 hO6
      go_wp2_with fail
      go_ret
      exact ⟨rfl, ⟨_, _, hW7, HBB.out.1⟩, hO7⟩
    · obtain ⟨hd64, hbe⟩ := hB.below n hlt hf
      obtain ⟨d, hd⟩ : ∃ d, T - n = d := ⟨_, rfl⟩
      rw [hd] at hd64 hbe
      have h2 : 2 ^ d < 18446744073709551616 := by
        have := Nat.pow_lt_pow_right (a := 2) (by decide) hd64
        omega
      have HBB : Hid (WBits T (B ||| 2 ^ d) (wTake L n) ∧ B ||| 2 ^ d < 18446744073709551616) := ⟨hbe, hbe.ltB⟩
      have HR : Hid (bits .or .u64 (B : Int) (IntKind.u64.wrap (2 ^ (min (IntKind.u64.wrap ((T : Int) - (n : Int))).toNat 64))) = ((B ||| 2 ^ d : Nat) : Int)) := by
        have e1 : IntKind.u64.wrap ((T : Int) - (n : Int)) = (d : Int) := by rw [IntKind.wrap_u64]; omega
        have e2 : IntKind.u64.wrap ((2 : Int) ^ d) = ((2 ^ d : Nat) : Int) := by
          have e3 : ((2 : Int) ^ d) = ((2 ^ d : Nat) : Int) := by simp
          rw [e3]
          generalize 2 ^ d = q at h2
          rw [IntKind.wrap_u64]; omega
        rw [e1, Int.toNat_natCast, show min d 64 = d by omega, e2]
        exact or_val64 B _ hB.ltB h2
      have hO0 := Only.refl g w
      clear hbe
      go_enter Try.func9, Try.ntmps9
      go_wp2_with fail
      refine (wfresh_any g L n w h hn).mono ?_
      rintro e w' ⟨rfl, rfl⟩
      rw [hf]
      go_wp2_with fail
      clear c0 c1
      refine wp_region_last (G := Stays) (by kernel_rfl) Stays.refl Stays.trans (by kernel_rfl) [(0, true), (1, true), (2, true), (3, true), (4, true), (5, true), (6, true), (7, true), (8, true), (9, true), (10, true), (11, true), (12, true), (13, true)] 14 _ rfl ((Array.replicate 15 false).mapIdx fun i _ => i < 14) rfl (by kernel_rfl) (by kernel_rfl) (by kernel_rfl) (by kernel_rfl) ?_
      intro KK6 hKK6
      have hW6 := hW.kept (W' := World.drew w') rfl
      have hO6 := hO0.trans (Only.drew g w')
      generalize World.drew w' = W6 at hW6 hO6 ⊢
      have d0 := hW6.c0
      have d1 := hW6.c1
      have df := hW6.fr 1
      iterate 14 (refine sched_take rfl (by rfl) (v := ?_) ?_ ?_; rotate_left; (intro w2 hw2; cases hw2; go_simp; with_reducible rfl); go_simp)
      refine hKK6.out _ _ (W6.setCell ⟨g, 1, none⟩ (.int .u64 ((B ||| 2 ^ d : Nat) : Int))) (by rfl) (by go_simp; rw [HR.out]) ?_
      have hW7 := hW6.set1 (B ||| 2 ^ d) HBB.out.2
      have hO7 := hO6.trans (Only.setCell g 1 W6 (.int .u64 ((B ||| 2 ^ d : Nat) : Int)))
      generalize World.setCell W6 _ _ = W7 at hW7 hO7 ⊢
      clear d0 d1 df hW6 hO6
      go_wp2_with fail
      go_ret
      exact ⟨rfl, ⟨_, _, hW7, HBB.out.1⟩, hO7⟩
end Go.Proofs.Ytciolibeonlijaa
