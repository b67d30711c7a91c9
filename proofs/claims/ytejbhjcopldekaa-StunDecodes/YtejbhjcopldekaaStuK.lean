/- The program's class: a loop over a map (stage 12). -/
import Derived.Test.YtejbhjcopldekaaStuJ
namespace Go.Proofs.Ytejbhjcopldekaa
set_option linter.unusedVariables false
set_option maxRecDepth 100000
open Go.RowKit
open Go.Maps (Keyed IsMap Tidy)

theorem sClass_of (c : Int) (h : c = 0 ∨ c = 2 ∨ c = 3) : sClass (sKind c) = some c := by
  rcases h with rfl | rfl | rfl <;> rfl
theorem sClass_none (k : Nat) (h0 : sKind 0 ≠ k) (h2 : sKind 2 ≠ k) (h3 : sKind 3 ≠ k) : sClass k = none := by
  unfold sClass
  rw [if_neg (fun e => h0 e.symm), if_neg (fun e => h2 e.symm), if_neg (fun e => h3 e.symm)]
theorem sameKey_int (a b : Int) : (Lit.int .i64 a).sameKey (.int .i64 b) = decide (a = b) := by
  simp [Lit.sameKey]
set_option maxHeartbeats 1000000 in
theorem class_any (kind : Nat) (w : World) :
    Calls Try.prog 49 #[.int .i64 (kind : Int)] w fun e w' => ((∃ c, sClass kind = some c ∧ e = .returned (.int .i64 c)) ∨ (sClass kind = none ∧ e = span 2)) ∧ Below w.heap.size w w' := by
  go_enter Try.func49, Try.ntmps49
  go_wp2_with fail
  refine (types_any w).mono ?_
  rintro e w1 ⟨rfl, hb1, hown⟩
  obtain ⟨g, hg⟩ : ∃ g, w.heap.size = g := ⟨_, rfl⟩
  have hgl := hown.lt
  rw [hg] at hown hgl
  rw [hg]
  have HB1 := uhid hb1
  clear hb1
  go_wp2_with (first
    | (at_range; refine wpList_range_own _ rfl _ 59 rfl 3 3 keyedI Try.underlying59 _ g 3 _ rfl hown ?_; intro w2 hrg0 hg0 hs0)
    | fail)
  go_frame
  obtain ⟨r, hr⟩ : ∃ r, w1.heap.size = r := ⟨_, rfl⟩
  rw [hr] at hrg0 hs0 hgl ⊢
  have hbw2 : Below w.heap.size w w2 := HB1.out.grown hg0 HB1.out.size (fun k hk => by cases hk)
  have hwr : w.heap.size ≤ r := by rw [← hr]; exact HB1.out.size
  go_loopw [3] (fun _ wr => ∃ (left : Lit → Bool) (cnt : Nat), wr.ranges Try.prog 3 (plainElem Try.prog 3) g r 3 TyD left cnt ∧ Hid ((∀ k, left k = true → Maps.has TyD k = true) ∧ (∀ c : Int, (c = 0 ∨ c = 2 ∨ c = 3) → left (.int .i64 c) = false → sKind c ≠ kind) ∧ Below w.heap.size w wr))
    (fun _ wr => wr.rangeLeft g r)
  case atStart =>
    refine ⟨_, _, hrg0, uhid ⟨fun k hk => hk, fun c hc hf => ?_, hbw2⟩⟩
    rw [tyD_has, decide_eq_true hc] at hf
    cases hf
  case round =>
    obtain ⟨left, cnt, hrg, HV⟩ := hrel
    go_wp2_with (first
      | (at_next; refine wpList_next_ranges_ii _ rfl _ rfl 3 3 .i64 .i64 keyedI Try.underlying3 Try.underlying3 g r 3 _ _ _ rfl hrg ?_ ?_)
      | fail)
    · intro hc0 hl0
      have hnone : sClass kind = none := sClass_none kind (HV.out.2.1 0 (.inl rfl) (hl0 _)) (HV.out.2.1 2 (.inr (.inl rfl)) (hl0 _)) (HV.out.2.1 3 (.inr (.inr rfl)) (hl0 _))
      have HN := uhid hnone
      clear hl0 hnone
      go_wp2_with fail
      exact ⟨rfl, .inr ⟨HN.out, rfl⟩, HV.out.2.2⟩
    · intro x c w3 cnt1 hwx hwc hlx hat hrg1 hlt hg1 hs1 hen
      have hin : x = 0 ∨ x = 2 ∨ x = 3 := by
        have := HV.out.1 _ hlx
        rw [tyD_has] at this
        exact of_decide_eq_true this
      have hce : c = (sKind x : Int) := by
        have h1 := hat (.lit (.int .i64 0))
        rw [tyD_at x hin] at h1
        cases h1
        rfl
      have HB3 : Hid (Below w.heap.size w w3) := uhid (HV.out.2.2.grown hg1 HV.out.2.2.size (fun j hj => by cases hj; exact hwr))
      subst hce
      by_cases hk : sKind x = kind
      · subst hk
        have HC := uhid (sClass_of x hin)
        clear hat hin
        go_wp2_with fail
        go_ret
        exact ⟨.inl ⟨x, HC.out, rfl⟩, HB3.out⟩
      · have hk2 : ¬ (sKind x : Int) = (kind : Int) := by omega
        have HVn : Hid ((∀ k, (left k && !k.sameKey (.int .i64 x)) = true → Maps.has TyD k = true) ∧ (∀ c : Int, (c = 0 ∨ c = 2 ∨ c = 3) → (left (.int .i64 c) && !(Lit.int .i64 c).sameKey (.int .i64 x)) = false → sKind c ≠ kind) ∧ Below w.heap.size w w3) := uhid (by
          refine ⟨fun k hk => ?_, fun c hc hf => ?_, HB3.out⟩
          · rw [Bool.and_eq_true] at hk
            exact HV.out.1 k hk.1
          · rw [sameKey_int] at hf
            by_cases hcx : c = x
            · rw [hcx]; exact hk
            · rw [decide_eq_false hcx] at hf
              simp at hf
              exact HV.out.2.1 c hc hf)
        clear hat hin HV
        go_wp2_with fail
        go_roundw
        case rel => exact ⟨_, cnt1, hrg1, HVn⟩
        case measure => rw [hrg1.left_eq, hrg.left_eq]; exact hlt
end Go.Proofs.Ytejbhjcopldekaa
