/- WindowRises: numbers that rise are all taken; each leaves those behind that are 64 less, or more. For every start and row of steps, without a condition. -/
import Derived.Test.YtciolibeonlijaaWinS
namespace Go.Proofs.Ytciolibeonlijaa.windowRises
open Go.ChangeShapes Go.WideShapes Go.ChangeAt Go.RowKit
set_option linter.unusedVariables false
set_option maxRecDepth 100000

/-- Between two rounds: none is above n. -/
structure WR (w : World) (g n : Nat) (W : World) : Prop where
  win : ∃ L, WiIs W g L ∧ wTop L ≤ n
  bel : Below w.heap.size w W
  lo : w.heap.size ≤ g
/-- A number above all others. -/
theorem rises (L : List Nat) (n : Nat) (h : wTop L < n) (h64 : 65 ≤ n) (hn : n + 1 < 18446744073709551615) :
    wFresh L n = true ∧ wTake L n = L ++ [n] ∧ wTop (L ++ [n]) = n ∧ wFresh (L ++ [n]) (n - 64) = false ∧ wFresh (L ++ [n]) (n - 65) = false ∧ wFresh (L ++ [n]) (n + 1) = true := by
  have hm : ∀ m, wTop L < m → m ∉ L := fun m hm h' => by have := le_wTop L h'; omega
  have t : wTop (L ++ [n]) = n := by rw [wTop_snoc]; omega
  have f : wFresh L n = true := by unfold wFresh; exact decide_eq_true ⟨by omega, by omega, hm n h⟩
  refine ⟨f, by unfold wTake; rw [if_pos f], t, ?_, ?_, ?_⟩ <;> unfold wFresh
  · exact decide_eq_false (fun e => by have := e.2.1; omega)
  · exact decide_eq_false (fun e => by have := e.2.1; omega)
  · refine decide_eq_true ⟨by omega, by omega, fun h' => ?_⟩
    rcases List.mem_append.1 h' with h' | h'
    · exact hm _ (by omega) h'
    · have := List.mem_singleton.1 h'; omega

set_option maxHeartbeats 2000000 in
theorem walk (a0 : Int) (a1 : Option Addr) (len1 cap1 : Nat) (z1 : List Int) (w : World) (w0 : (Lit.int .u64 a0).wf = true) (w1 : IsRow .u8 w a1 len1 cap1 z1) :
    Calls Try.prog 6 #[.int .u64 a0, .slice a1 len1 cap1] w fun e w' => e = .returned (.bool true) ∧ Below w.heap.size w w' := by
  obtain ⟨n0, rfl, hn0⟩ := u64_of a0 w0
  obtain ⟨f, hf, hrow⟩ := row_byts w1
  have HF := whid hf
  have HR := whid hrow
  have h60 := and60 n0 hn0
  obtain ⟨m0, hm0⟩ : ∃ m, n0 % 1152921504606846976 = m := ⟨_, rfl⟩
  have hml : m0 < 1152921504606846976 := by omega
  rw [hm0] at h60
  clear hf hrow w0 w1 hm0
  go_enter Try.func6, Try.ntmps6
  go_wp2_with fail
  refine (winShown_any _).mono ?_
  rintro e w3 ⟨rfl, hb3⟩
  have hs3 := hb3.size
  obtain ⟨q0, hq0⟩ : ∃ q, m0 + 1000 = q := ⟨_, rfl⟩
  have hw0 : IntKind.u64.wrap ((m0 : Int) + 1000) = (q0 : Int) := by rw [IntKind.wrap_u64]; omega
  have HE : Hid (WR w w3.heap.size q0 (w3.alloc (.cells #[.int .u64 0, .int .u64 0] 27))) := ⟨⟨[], WiIs.new w3, by simp [wTop]⟩, hb3.alloc hs3 _, hs3⟩
  go_wp2_with fail
  generalize World.alloc w3 _ = W at HE ⊢
  generalize w3.heap.size = g at HE ⊢
  clear hb3 hs3 hw0 h60
  go_loopw [7, 8] (fun v i wr => ∃ k n : Nat, k ≤ 80 ∧ i = .int .i64 k ∧ v = .int .u64 n ∧ 1000 ≤ n ∧ n ≤ 1152921504606847976 + 200 * k ∧ Hid (WR w g n wr)) (fun _ i _ => 80 - (intOf i).toNat)
  case atStart => exact ⟨0, q0, by omega, rfl, rfl, by omega, by omega, HE⟩
  case round =>
    clear HE hq0
    obtain ⟨k, n, hk, rfl, rfl, hn1, hn2, HE⟩ := hrel
    by_cases hc : k < len1 ∧ k < 80
    · obtain ⟨hc1, hc2⟩ := hc
      have i1 : (k : Int) < (len1 : Int) := by omega
      have i2 : (k : Int) < 80 := by omega
      obtain ⟨b, off, rfl, hbw, hcell⟩ := HR.out (by omega)
      have q := hcell k hc1
      have hfk := HF.out k
      rw [← HE.out.bel.cell (p := ⟨b, off + k, none⟩) hbw] at q
      generalize f k = x at q hfk
      have hr : ((x : Int).tmod 200) = ((x % 200 : Nat) : Int) := by rw [Int.tmod_eq_emod_of_nonneg (by omega)]; omega
      obtain ⟨N, hN⟩ : ∃ N, n + 1 + x % 200 = N := ⟨_, rfl⟩
      clear hcell
      go_wp2_with fail
      have eN : (n : Int) + 1 + (x : Int) % 200 = (N : Int) := by omega
      rw [eN]
      have hNn : n < N ∧ N ≤ n + 200 := by omega
      clear hr eN q hfk hN
      obtain ⟨L, hL, hx⟩ := HE.out.win
      obtain ⟨r1, r2, r3, r4, r5, r6⟩ := rises L N (by omega) (by omega) (by omega)
      have hlo := HE.out.lo
      have b0 := HE.out.bel
      refine (wtake_any _ _ _ _ hL (by omega)).mono ?_
      rintro e w5 ⟨rfl, h5, o5⟩
      rw [r1]
      rw [r2] at h5
      have b5 := below_only b0 o5 hlo hL.lt
      clear hL o5 b0 hx HE r1 r2
      go_wp2_with fail
      refine (wtop_any _ _ _ h5).mono ?_
      rintro e w6 ⟨rfl, b6⟩
      rw [r3, show decide (L ++ [N] ≠ []) = true by simp]
      have h6 := h5.kept (b6.block _ h5.lt)
      have HE6 : Hid (WR w g N w6) := ⟨⟨_, h6, by rw [r3]; exact Nat.le_refl _⟩, b5.trans (b6.mono b5.size), hlo⟩
      clear h5 b5 b6 r3 hlo
      have e64 : (N : Int) - 64 = ((N - 64 : Nat) : Int) := by omega
      have e65 : (N : Int) - 65 = ((N - 65 : Nat) : Int) := by omega
      go_wp2_with fail
      refine (wfresh_any _ _ _ _ h6 (by omega)).mono ?_
      rintro e w7 ⟨rfl, rfl⟩
      rw [r4]
      go_wp2_with fail
      refine (wfresh_any _ _ _ _ h6 (by omega)).mono ?_
      rintro e w8 ⟨rfl, rfl⟩
      rw [r5]
      go_wp2_with fail
      rw [show (N : Int) + 1 = ((N + 1 : Nat) : Int) by omega]
      refine (wfresh_any _ _ _ _ h6 (by omega)).mono ?_
      rintro e w9 ⟨rfl, rfl⟩
      rw [r6]
      go_wp2_with fail
      exact ⟨⟨k + 1, N, by omega, by go_num, rfl, by omega, by omega, HE6⟩, by simp [intOf]; omega⟩
    · have b0 := HE.out.bel
      clear HE HR HF
      by_cases hk1 : k < len1
      case' pos =>
        have i1 : (k : Int) < (len1 : Int) := by omega
        have i2 : ¬ (k : Int) < 80 := by omega
      case' neg => have i1 : ¬ (k : Int) < (len1 : Int) := by omega
      all_goals
        go_wp2_with fail
        go_ret
        exact ⟨rfl, b0⟩
end Go.Proofs.Ytciolibeonlijaa.windowRises
