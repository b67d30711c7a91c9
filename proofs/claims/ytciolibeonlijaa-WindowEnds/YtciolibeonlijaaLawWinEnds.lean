/- WindowEnds: the last number is never taken; the one ahead of it may be, once. For every row of numbers, without a condition. -/
import Derived.Test.YtciolibeonlijaaWinS
namespace Go.Proofs.Ytciolibeonlijaa.windowEnds
open Go.ChangeShapes Go.WideShapes Go.ChangeAt Go.RowKit
set_option linter.unusedVariables false
set_option maxRecDepth 100000

/-- Between two rounds. -/
structure WE (w : World) (g : Nat) (W : World) : Prop where
  win : ∃ L, WiIs W g L ∧ ∀ x ∈ L, x < 18446744073709550615
  bel : Below w.heap.size w W
  lo : w.heap.size ≤ g
theorem top_lt {c : Nat} (hc : 0 < c) : ∀ L : List Nat, (∀ x ∈ L, x < c) → wTop L < c
  | [], _ => by simpa [wTop] using hc
  | x :: l, h => by
    have h1 := top_lt hc l (fun y hy => h y (List.mem_cons_of_mem _ hy))
    have h2 := h x (by simp)
    rw [wTop]; omega
theorem take_lt {c n : Nat} {L : List Nat} (h : ∀ x ∈ L, x < c) (hn : n < c) : ∀ x ∈ wTake L n, x < c := by
  unfold wTake
  split
  · intro x hx
    rcases List.mem_append.1 hx with hx | hx
    · exact h x hx
    · rw [List.mem_singleton.1 hx]; exact hn
  · exact h
/-- What the five calls behind the loop answer. -/
theorem ends (L : List Nat) (h : ∀ x ∈ L, x < 18446744073709550615) :
    (wFresh L 18446744073709551615 = false ∧ wTake L 18446744073709551615 = L) ∧
    (wFresh L 18446744073709551614 = true ∧ wTake L 18446744073709551614 = L ++ [18446744073709551614]) ∧
    (wFresh (L ++ [18446744073709551614]) 18446744073709551614 = false ∧ wTake (L ++ [18446744073709551614]) 18446744073709551614 = L ++ [18446744073709551614]) ∧
    (wFresh (L ++ [18446744073709551614]) 18446744073709551551 = true ∧ wTake (L ++ [18446744073709551614]) 18446744073709551551 = L ++ [18446744073709551614] ++ [18446744073709551551]) ∧
    (wFresh (L ++ [18446744073709551614] ++ [18446744073709551551]) 18446744073709551550 = false ∧ wTake (L ++ [18446744073709551614] ++ [18446744073709551551]) 18446744073709551550 = L ++ [18446744073709551614] ++ [18446744073709551551]) ∧
    wTop (L ++ [18446744073709551614] ++ [18446744073709551551]) = 18446744073709551614 := by
  have ht := top_lt (by decide) L h
  have n1 : 18446744073709551614 ∉ L := fun hm => by have := h _ hm; omega
  have n2 : 18446744073709551551 ∉ L := fun hm => by have := h _ hm; omega
  have t1 : wTop (L ++ [18446744073709551614]) = 18446744073709551614 := by rw [wTop_snoc]; omega
  have t2 : wTop (L ++ [18446744073709551614] ++ [18446744073709551551]) = 18446744073709551614 := by rw [wTop_snoc, t1]; decide
  have f1 : wFresh L 18446744073709551615 = false := by unfold wFresh; exact decide_eq_false (fun e => e.1 rfl)
  have f2 : wFresh L 18446744073709551614 = true := by unfold wFresh; exact decide_eq_true ⟨by decide, by omega, n1⟩
  have f3 : wFresh (L ++ [18446744073709551614]) 18446744073709551614 = false := by unfold wFresh; exact decide_eq_false (fun e => e.2.2 (by simp))
  have f4 : wFresh (L ++ [18446744073709551614]) 18446744073709551551 = true := by unfold wFresh; exact decide_eq_true ⟨by decide, by omega, by simpa using n2⟩
  have f5 : wFresh (L ++ [18446744073709551614] ++ [18446744073709551551]) 18446744073709551550 = false := by unfold wFresh; exact decide_eq_false (fun e => by have := e.2.1; omega)
  refine ⟨⟨f1, ?_⟩, ⟨f2, ?_⟩, ⟨f3, ?_⟩, ⟨f4, ?_⟩, ⟨f5, ?_⟩, t2⟩ <;> unfold wTake
  · rw [f1]; rfl
  · rw [f2]; rfl
  · rw [f3]; rfl
  · rw [f4]; rfl
  · rw [f5]; rfl

set_option maxHeartbeats 2000000 in
theorem walk (a0 : Option Addr) (len0 cap0 : Nat) (z0 : List Int) (w : World) (w0 : IsRow .u64 w a0 len0 cap0 z0) :
    Calls Try.prog 7 #[.slice a0 len0 cap0] w fun e w' => e = .returned (.bool true) ∧ Below w.heap.size w w' := by
  obtain ⟨f, hf, hrow⟩ := row_nums w0
  have HF := whid hf
  have HR := whid hrow
  clear hf hrow w0
  go_enter Try.func7, Try.ntmps7
  go_wp2_with fail
  refine (winShown_any _).mono ?_
  rintro e w3 ⟨rfl, hb3⟩
  have hs3 := hb3.size
  have HE : Hid (WE w w3.heap.size (w3.alloc (.cells #[.int .u64 0, .int .u64 0] 27))) := ⟨⟨[], WiIs.new w3, by simp⟩, hb3.alloc hs3 _, hs3⟩
  go_wp2_with fail
  generalize World.alloc w3 _ = W at HE ⊢
  generalize w3.heap.size = g at HE ⊢
  clear hb3 hs3
  go_loopw [5] (fun i wr => ∃ k : Nat, k ≤ 50 ∧ i = .int .i64 k ∧ Hid (WE w g wr)) (fun i _ => 50 - (intOf i).toNat)
  case atStart => exact ⟨0, by omega, rfl, HE⟩
  case round =>
    clear HE
    obtain ⟨k, hk, rfl, HE⟩ := hrel
    by_cases hc : k < len0 ∧ k < 50
    · obtain ⟨hc1, hc2⟩ := hc
      have i1 : (k : Int) < (len0 : Int) := by omega
      have i2 : (k : Int) < 50 := by omega
      obtain ⟨b, off, rfl, hbw, hcell⟩ := HR.out (by omega)
      have q := hcell k hc1
      rw [← HE.out.bel.cell (p := ⟨b, off + k, none⟩) hbw] at q
      have hr : Hid ((f k : Int).tmod 18446744073709550615 = ((f k % 18446744073709550615 : Nat) : Int)) := by
        show _ = _
        rw [Int.tmod_eq_emod_of_nonneg (by omega)]; omega
      clear hcell
      go_wp2_with fail
      obtain ⟨L, hL, hx⟩ := HE.out.win
      have hm : f k % 18446744073709550615 < 18446744073709550615 := Nat.mod_lt _ (by decide)
      refine (wtake_at hL _ hr.out (by omega)).mono ?_
      rintro e w5 ⟨rfl, h5, o5⟩
      have HE5 : Hid (WE w g w5) := ⟨⟨_, h5, take_lt hx hm⟩, below_only HE.out.bel o5 HE.out.lo hL.lt, HE.out.lo⟩
      clear hL hx h5 o5 q HE
      go_wp2_with fail
      exact ⟨⟨k + 1, by omega, by go_num, HE5⟩, by simp [intOf]; omega⟩
    · obtain ⟨L, hL, hx⟩ := HE.out.win
      obtain ⟨⟨fa, ta⟩, ⟨fb, tb⟩, ⟨fc, tc⟩, ⟨fd, td⟩, ⟨fe, te⟩, tt⟩ := ends L hx
      have hlo := HE.out.lo
      have b0 := HE.out.bel
      clear HE hx HR HF
      by_cases hk1 : k < len0
      case' pos =>
        have i1 : (k : Int) < (len0 : Int) := by omega
        have i2 : ¬ (k : Int) < 50 := by omega
      case' neg => have i1 : ¬ (k : Int) < (len0 : Int) := by omega
      all_goals
        go_wp2_with fail
        refine (wtake_at hL 18446744073709551615 rfl (by decide)).mono ?_
        rintro e w1 ⟨rfl, h1, h1o⟩
        rw [fa]
        rw [ta] at h1
        have b1 := below_only b0 h1o hlo hL.lt
        clear h1o hL b0 fa ta
        go_wp2_with fail
        refine (wtake_at h1 18446744073709551614 rfl (by decide)).mono ?_
        rintro e w2 ⟨rfl, h2, h2o⟩
        rw [fb]
        rw [tb] at h2
        have b2 := below_only b1 h2o hlo h1.lt
        clear h2o h1 b1 fb tb
        go_wp2_with fail
        refine (wtake_at h2 18446744073709551614 rfl (by decide)).mono ?_
        rintro e w5 ⟨rfl, h3, h3o⟩
        rw [fc]
        rw [tc] at h3
        have b3 := below_only b2 h3o hlo h2.lt
        clear h3o h2 b2 fc tc
        go_wp2_with fail
        refine (wtake_at h3 18446744073709551551 rfl (by decide)).mono ?_
        rintro e w6 ⟨rfl, h4, h4o⟩
        rw [fd]
        rw [td] at h4
        have b4 := below_only b3 h4o hlo h3.lt
        clear h4o h3 b3 fd td
        go_wp2_with fail
        refine (wtake_at h4 18446744073709551550 rfl (by decide)).mono ?_
        rintro e w7 ⟨rfl, h5, h5o⟩
        rw [fe]
        rw [te] at h5
        have b5 := below_only b4 h5o hlo h4.lt
        clear h5o h4 b4 fe te
        go_wp2_with fail
        refine (wtop_any _ _ _ h5).mono ?_
        rintro e w8 ⟨rfl, b8⟩
        rw [tt, show decide (L ++ [18446744073709551614] ++ [18446744073709551551] ≠ ([] : List Nat)) = true by simp]
        have b9 := b5.trans (b8.mono b5.size)
        clear h5 b5 b8 tt hlo
        go_wp2_with fail
        go_ret
        exact ⟨rfl, b9⟩
end Go.Proofs.Ytciolibeonlijaa.windowEnds
