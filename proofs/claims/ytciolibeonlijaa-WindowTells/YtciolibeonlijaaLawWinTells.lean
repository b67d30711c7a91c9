/- WindowTells: numbers are taken as the document says. For every row of numbers and one that is asked for, without a condition. -/
import Derived.Test.YtciolibeonlijaaWinR
namespace Go.Proofs.Ytciolibeonlijaa.windowTells
open Go.ChangeShapes Go.WideShapes Go.ChangeAt Go.RowKit
set_option linter.unusedVariables false
set_option maxRecDepth 100000

/-- Between two rounds: both windows have taken the same. -/
structure WT (w : World) (g r k : Nat) (W : World) : Prop where
  both : ∃ L a cap, WiIs W g L ∧ RwIs W r a cap L ∧ L.length ≤ k
  bel : Below w.heap.size w W
  lo : w.heap.size ≤ g
  gr : g < r
theorem take_len (L : List Nat) (n : Nat) : (wTake L n).length ≤ L.length + 1 := by
  unfold wTake
  split <;> simp

set_option maxHeartbeats 1000000 in
theorem walk (a0 : Option Addr) (len0 cap0 : Nat) (z0 : List Int) (a1 : Int) (w : World) (w0 : IsRow .u64 w a0 len0 cap0 z0) (w1 : (Lit.int .u64 a1).wf = true) :
    Calls Try.prog 3 #[.slice a0 len0 cap0, .int .u64 a1] w fun e w' => e = .returned (.bool true) ∧ Below w.heap.size w w' := by
  obtain ⟨n, rfl, hn⟩ := u64_of a1 w1
  obtain ⟨f, hf, hrow⟩ := row_nums w0
  have HF := whid hf
  have HR := whid hrow
  clear hf hrow w0 w1
  go_enter Try.func3, Try.ntmps3
  go_wp2_with fail
  refine (winShown_any _).mono ?_
  rintro e w3 ⟨rfl, hb3⟩
  have hs3 := hb3.size
  have hsA : (w3.alloc (.cells #[.int .u64 0, .int .u64 0] 27)).heap.size = w3.heap.size + 1 := World.size_alloc _ _
  have HE : Hid (WT w w3.heap.size (w3.heap.size + 1) 0 ((w3.alloc (.cells #[.int .u64 0, .int .u64 0] 27)).alloc (.cells #[.slice none 0 0] 30))) :=
    ⟨⟨[], none, 0, (WiIs.new w3).kept (Below.heap_alloc _ _ _ (by omega)), ⟨by rw [← hsA]; exact heap_alloc_new _ _, Seg.nil _ _, by intro j hj; simp [blockOf] at hj, by simp⟩, by simp⟩, (hb3.alloc hs3 _).alloc (by omega) _, hs3, by omega⟩
  clear hsA
  go_wp2_with fail
  generalize World.alloc (World.alloc w3 _) _ = W at HE ⊢
  generalize w3.heap.size = g at HE ⊢
  obtain ⟨r, hr⟩ : ∃ r, g + 1 = r := ⟨_, rfl⟩
  rw [hr] at HE ⊢
  clear hb3 hs3 hr
  go_loopw [8] (fun i wr => ∃ k : Nat, k ≤ 100 ∧ i = .int .i64 k ∧ Hid (WT w g r k wr)) (fun i _ => 100 - (intOf i).toNat)
  case atStart => exact ⟨0, by omega, rfl, HE⟩
  case round =>
    clear HE
    obtain ⟨k, hk, rfl, HE⟩ := hrel
    by_cases hc : k < len0 ∧ k < 100
    · obtain ⟨hc1, hc2⟩ := hc
      have i1 : (k : Int) < (len0 : Int) := by omega
      have i2 : (k : Int) < 100 := by omega
      obtain ⟨b, off, rfl, hbw, hcell⟩ := HR.out (by omega)
      have q := hcell k hc1
      have hfk := HF.out k
      have Q := whid q
      rw [← HE.out.bel.cell (p := ⟨b, off + k, none⟩) hbw] at q
      generalize f k = x at q Q hfk
      clear hcell
      obtain ⟨L, a, cap, hw1, hr1, hlen⟩ := HE.out.both
      have hlo := HE.out.lo
      have hgr := HE.out.gr
      have b0 := HE.out.bel
      have hlT := take_len L x
      clear HE
      go_wp2_with fail
      refine (wtake_any _ _ _ _ hw1 hfk).mono ?_
      rintro e w5 ⟨rfl, hw5, o5⟩
      have hr5 : RwIs w5 r a cap L := hr1.kept fun j hj hrj => o5.1.block j hj (fun e => by cases e; omega)
      have b5 := below_only b0 o5 hlo hw1.lt
      have q5 := Q.out
      rw [← b5.cell (p := ⟨b, off + k, none⟩) hbw] at q5
      clear hw1 hr1 b0 o5 q
      go_wp2_with fail
      refine (rtake_any _ _ _ _ _ _ hr5 (by omega) hfk).mono ?_
      rintro e w6 ⟨rfl, ⟨a6, cap6, hr6⟩, b6⟩
      have hw6 := hw5.kept (b6.block g hgr)
      have b7 := b5.trans (b6.mono (by omega))
      clear hw5 hr5 b5 b6 q5
      generalize wFresh L x = F
      generalize wTake L x = M at hr6 hw6 hlT
      go_wp2_with fail
      refine (wtop_any _ _ _ hw6).mono ?_
      rintro e w7 ⟨rfl, b8⟩
      have hw7 := hw6.kept (b8.block g hw6.lt)
      have hr7 : RwIs w7 r a6 cap6 M := hr6.kept fun j hj _ => b8.block j hj
      have b9 := b7.trans (b8.mono b7.size)
      clear hw6 hr6 b7 b8
      obtain ⟨E, hE⟩ : ∃ E, decide (M ≠ []) = E := ⟨_, rfl⟩
      have HD := whid hE
      rw [hE]
      clear hE
      go_wp2_with fail
      refine (rtop_any _ _ _ _ _ hr7 (by omega)).mono ?_
      rintro e w8 ⟨rfl, k8, rfl⟩
      rw [HD.out]
      have hw8 : WiIs (w7.drewN k8) g M := hw7.kept rfl
      have hr8 : RwIs (w7.drewN k8) r a6 cap6 M := hr7.kept fun _ _ _ => rfl
      have b10 : Below w.heap.size w (w7.drewN k8) := below_drewN b9 k8
      generalize w7.drewN k8 = W8 at hw8 hr8 b10 ⊢
      clear hw7 hr7 b9 HD
      generalize wTop M = t
      go_wp2_with fail
      refine (wfresh_any _ _ _ _ hw8 hn).mono ?_
      rintro e w9 ⟨rfl, rfl⟩
      go_wp2_with fail
      refine (rfresh_any _ _ _ _ _ _ hr8 (by omega) hn).mono ?_
      rintro e w10 ⟨rfl, k10, rfl⟩
      have HE6 : Hid (WT w g r (k + 1) (World.drewN w9 k10)) := ⟨⟨M, a6, cap6, hw8.kept rfl, hr8.kept fun _ _ _ => rfl, by omega⟩, below_drewN b10 k10, hlo, hgr⟩
      clear hw8 hr8 b10
      go_wp2_with fail
      exact ⟨⟨k + 1, by omega, by go_num, HE6⟩, by simp [intOf]; omega⟩
    · have b0 := HE.out.bel
      clear HE HR HF
      by_cases hk1 : k < len0
      case' pos =>
        have i1 : (k : Int) < (len0 : Int) := by omega
        have i2 : ¬ (k : Int) < 100 := by omega
      case' neg => have i1 : ¬ (k : Int) < (len0 : Int) := by omega
      all_goals
        go_wp2_with fail
        go_ret
        exact ⟨rfl, b0⟩
end Go.Proofs.Ytciolibeonlijaa.windowTells
