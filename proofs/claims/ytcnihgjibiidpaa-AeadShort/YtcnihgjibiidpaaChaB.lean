/- The walk over the program's turn. -/
import Derived.Test.YtcnihgjibiidpaaChaA
namespace Go.Proofs.Ytcnihgjibiidpaa
set_option linter.unusedVariables false
open Go.RowKit
/-- The words, as they come from round to round. -/
structure Tur (w : World) (g : Nat) (l : List (BitVec 32)) (wr : World) : Prop where
  now : Wds wr g l
  grown : w.grownBy wr (some g)
theorem Tur.next {w wr w' : World} {g : Nat} {l l' : List (BitVec 32)} (t : Tur w g l wr) (hs : Wds w' g l') (hg : wr.grownBy w' (some g)) : Tur w g l' w' := ⟨hs, t.grown.trans hg⟩
theorem slant_val (q c d : Nat) (hq : q < 4) (hc : c < 4) (hd : d ≤ 12) : IntKind.i64.wrap ((d : Int) + (IntKind.i64.wrap ((q : Int) + (c : Int))).tmod 4) = ((d + (q + c) % 4 : Nat) : Int) := by
  have h1 : IntKind.i64.wrap ((q : Int) + (c : Int)) = ((q + c : Nat) : Int) := by rw [IntKind.wrap_i64]; omega
  have h2 : ((q + c : Nat) : Int).tmod 4 = (((q + c) % 4 : Nat) : Int) := by rw [Int.tmod_eq_emod_of_nonneg (by omega)]; omega
  have h3 : (q + c) % 4 < 4 := by omega
  rw [h1, h2]
  generalize (q + c) % 4 = m at h3 ⊢
  rw [IntKind.wrap_i64]
  omega
theorem Tur.drew {w wr : World} {g : Nat} {l : List (BitVec 32)} (t : Tur w g l wr) : Tur w g l wr.drew := t.next t.now (grownBy_drew wr _)

set_option maxHeartbeats 2000000 in
set_option maxRecDepth 100000 in
theorem turn_any (g : Nat) (l : List (BitVec 32)) (w : World) (hl : l.length = 16) (hS : Wds w g l) :
    Calls Try.prog 58 #[.pointer (some ⟨g, 0, none⟩)] w fun e w' => (∃ v, e = .returned v) ∧ Wds w' g (slants 4 (cols 4 l)) ∧ w.grownBy w' (some g) := by
  have HT0 : Hid (Tur w g l w) := ⟨hS, grownBy_refl w _⟩
  clear hS
  have hcl : ∀ k, (cols k l).length = 16 := fun k => by rw [cols_length, hl]
  have hsl : ∀ k, (slants k (cols 4 l)).length = 16 := fun k => by rw [slants_length, hcl]
  go_enter Try.func58, Try.ntmps58
  go_wp2
  go_loopw [4] (fun i wr => ∃ j : Nat, j ≤ 4 ∧ i = .int .i64 j ∧ Hid (Tur w g (cols j l) wr)) (fun i _ => 4 - (intOf i).toNat)
  case atStart => exact ⟨0, by omega, rfl, HT0⟩
  case round =>
    clear HT0
    obtain ⟨j, hj, rfl, hD⟩ := hrel
    by_cases hjl : j < 4
    · obtain ⟨p1, hp1⟩ : ∃ p, 4 + j = p := ⟨_, rfl⟩
      obtain ⟨p2, hp2⟩ : ∃ p, 8 + j = p := ⟨_, rfl⟩
      obtain ⟨p3, hp3⟩ : ∃ p, 12 + j = p := ⟨_, rfl⟩
      have e1 : IntKind.i64.wrap ((4 : Int) + (j : Int)) = (p1 : Int) := by rw [IntKind.wrap_i64]; omega
      have e2 : IntKind.i64.wrap ((8 : Int) + (j : Int)) = (p2 : Int) := by rw [IntKind.wrap_i64]; omega
      have e3 : IntKind.i64.wrap ((12 : Int) + (j : Int)) = (p3 : Int) := by rw [IntKind.wrap_i64]; omega
      have hlj : (j : Int) < 4 := by omega
      have hj16 : (j : Int) < 16 := by omega
      have h116 : (p1 : Int) < 16 := by omega
      have h216 : (p2 : Int) < 16 := by omega
      have h316 : (p3 : Int) < 16 := by omega
      have HDd : Hid (Tur w g (cols j l) wr.drew) := hD.out.drew
      have hcj := hcl j
      clear hD
      go_wp2
      refine wp_region_sched' (G := But g) (by kernel_rfl) (But.refl g) (But.trans g) (by kernel_rfl) [(0, true), (1, true), (2, true), (3, true), (4, true), (5, true), (6, true), (7, true), (8, true), (9, true), (10, true), (11, true), (12, true), (13, true), (14, true), (15, true), (16, true), (17, true), (18, true), (19, false)] rfl (by kernel_rfl) ?_
      intro KK hKK
      generalize wr.drew = W at HDd
      iterate 19 (refine sched_take rfl (by rfl) (v := ?_) ?_ ?_; rotate_left; (intro w' hw'; clear hw'; go_simp; with_reducible rfl); go_simp)
      refine sched_call (f := 63) (args := #[.pointer (some ⟨g, j, none⟩), .pointer (some ⟨g, p1, none⟩), .pointer (some ⟨g, p2, none⟩), .pointer (some ⟨g, p3, none⟩)]) rfl (by rfl) (by go_simp) ?_
      refine (quarter_any g _ j p1 p2 p3 _ HDd.out.now (by omega) (by omega) (by omega) (by omega) (by omega) (by omega)).mono ?_
      rintro e w8 ⟨⟨v, rfl⟩, hs8, hg8⟩
      refine ⟨_, rfl, hg8, ?_⟩
      have HD8 : Hid (Tur w g (cols (j + 1) l) w8) := by
        rw [cols, hp1, hp2, hp3]
        exact HDd.out.next hs8 hg8
      clear hs8 hg8
      go_simp
      refine sched_done hKK ?_
      go_wp2
      exact ⟨⟨j + 1, by omega, by go_num, HD8⟩, by simp [intOf]; omega⟩
    · have ej : j = 4 := by omega
      have hjr : ¬ (j : Int) < 4 := by omega
      have HD4 : Hid (Tur w g (cols 4 l) wr) := by rw [← ej]; exact hD.out
      clear hD
      go_wp2
      go_loopw [28] (fun i wr => ∃ j : Nat, j ≤ 4 ∧ i = .int .i64 j ∧ Hid (Tur w g (slants j (cols 4 l)) wr)) (fun i _ => 4 - (intOf i).toNat)
      case atStart => exact ⟨0, by omega, rfl, HD4⟩
      case round =>
        clear HD4
        obtain ⟨q, hq, rfl, hE⟩ := hrel
        by_cases hql : q < 4
        · obtain ⟨p1, hp1⟩ : ∃ p, 4 + (q + 1) % 4 = p := ⟨_, rfl⟩
          obtain ⟨p2, hp2⟩ : ∃ p, 8 + (q + 2) % 4 = p := ⟨_, rfl⟩
          obtain ⟨p3, hp3⟩ : ∃ p, 12 + (q + 3) % 4 = p := ⟨_, rfl⟩
          have e1 : IntKind.i64.wrap ((4 : Int) + (IntKind.i64.wrap ((q : Int) + 1)).tmod 4) = (p1 : Int) := by
            rw [← hp1]; exact slant_val q 1 4 hql (by omega) (by omega)
          have e2 : IntKind.i64.wrap ((8 : Int) + (IntKind.i64.wrap ((q : Int) + 2)).tmod 4) = (p2 : Int) := by
            rw [← hp2]; exact slant_val q 2 8 hql (by omega) (by omega)
          have e3 : IntKind.i64.wrap ((12 : Int) + (IntKind.i64.wrap ((q : Int) + 3)).tmod 4) = (p3 : Int) := by
            rw [← hp3]; exact slant_val q 3 12 hql (by omega) (by omega)
          have hlq : (q : Int) < 4 := by omega
          have hq16 : (q : Int) < 16 := by omega
          have h116 : (p1 : Int) < 16 := by omega
          have h216 : (p2 : Int) < 16 := by omega
          have h316 : (p3 : Int) < 16 := by omega
          have HEd : Hid (Tur w g (slants q (cols 4 l)) wr.drew) := hE.out.drew
          have hsq := hsl q
          clear hE
          go_wp2
          refine wp_region_sched' (G := But g) (by kernel_rfl) (But.refl g) (But.trans g) (by kernel_rfl) [(0, true), (1, true), (2, true), (3, true), (4, true), (5, true), (6, true), (7, true), (8, true), (9, true), (10, true), (11, true), (12, true), (13, true), (14, true), (15, true), (16, true), (17, true), (18, true), (19, true), (20, true), (21, true), (22, true), (23, true), (24, true), (25, false)] rfl (by kernel_rfl) ?_
          intro KK hKK
          generalize wr.drew = W at HEd
          iterate 25 (refine sched_take rfl (by rfl) (v := ?_) ?_ ?_; rotate_left; (intro w' hw'; clear hw'; go_simp; with_reducible rfl); go_simp)
          refine sched_call (f := 63) (args := #[.pointer (some ⟨g, q, none⟩), .pointer (some ⟨g, p1, none⟩), .pointer (some ⟨g, p2, none⟩), .pointer (some ⟨g, p3, none⟩)]) rfl (by rfl) (by go_simp) ?_
          refine (quarter_any g _ q p1 p2 p3 _ HEd.out.now (by omega) (by omega) (by omega) (by omega) (by omega) (by omega)).mono ?_
          rintro e w8 ⟨⟨v, rfl⟩, hs8, hg8⟩
          refine ⟨_, rfl, hg8, ?_⟩
          have HE8 : Hid (Tur w g (slants (q + 1) (cols 4 l)) w8) := by
            rw [slants, hp1, hp2, hp3]
            exact HEd.out.next hs8 hg8
          clear hs8 hg8
          go_simp
          refine sched_done hKK ?_
          go_wp2
          exact ⟨⟨q + 1, by omega, by go_num, HE8⟩, by simp [intOf]; omega⟩
        · have eq : q = 4 := by omega
          have hqr : ¬ (q : Int) < 4 := by omega
          have HE4 : Hid (Tur w g (slants 4 (cols 4 l)) wr) := by have := hE.out; rw [eq] at this; exact this
          clear hE
          go_wp2
          go_end0
          exact ⟨⟨_, rfl⟩, HE4.out.now, HE4.out.grown⟩
end Go.Proofs.Ytcnihgjibiidpaa
