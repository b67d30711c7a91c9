/- WindowOnce: no number is taken twice. For every row of numbers, without a condition. -/
import Derived.Test.YtciolibeonlijaaWinS
namespace Go.Proofs.Ytciolibeonlijaa.windowOnce
open Go.ChangeShapes Go.WideShapes Go.ChangeAt Go.RowKit
set_option linter.unusedVariables false
set_option maxRecDepth 100000

def uq (n : Nat) : Value := .int .u64 (n : Int)
/-- Between two rounds: the window, and the list of what it took. -/
structure WO (w : World) (g : Nat) (L : List Nat) (a : Option Addr) (cap : Nat) (W : World) : Prop where
  win : WiIs W g L
  seg : Seg W 23 a L.length cap (L.map uq)
  hi : ∀ j, blockOf a = some j → g < j
  bel : Below w.heap.size w W
  lo : w.heap.size ≤ g
theorem WO.drew {w W : World} {g : Nat} {L : List Nat} {a : Option Addr} {cap : Nat} (h : WO w g L a cap W) : WO w g L a cap W.drew := ⟨h.win.kept rfl, h.seg.drew, h.hi, h.bel.drew, h.lo⟩
/-- What was asked for is not fresh behind it. -/
theorem once (L : List Nat) (x : Nat) : wFresh (wTake L x) x = false := by
  unfold wTake
  split
  · unfold wFresh
    exact decide_eq_false (fun e => e.2.2 (by simp))
  · rename_i h
    simpa using h
theorem fresh_not {L : List Nat} {x : Nat} (h : wFresh L x = true) : ∀ (j : Nat) (hj : j < L.length), (((L[j]'hj : Nat) : Int) == (x : Int)) = false := by
  intro j hj
  unfold wFresh at h
  have h3 := (of_decide_eq_true h).2.2
  rw [beq_eq_false_iff_ne]
  intro e
  exact h3 (by rw [← Int.ofNat_inj.1 e]; exact List.getElem_mem hj)

set_option maxHeartbeats 500000 in
theorem walk (a0 : Option Addr) (len0 cap0 : Nat) (z0 : List Int) (w : World) (w0 : IsRow .u64 w a0 len0 cap0 z0) :
    Calls Try.prog 4 #[.slice a0 len0 cap0] w fun e w' => e = .returned (.bool true) ∧ Below w.heap.size w w' := by
  obtain ⟨f, hf, hrow⟩ := row_nums w0
  have HF := whid hf
  have HR := whid hrow
  clear hf hrow w0
  go_enter Try.func4, Try.ntmps4
  go_wp2_with fail
  refine (winShown_any _).mono ?_
  rintro e w3 ⟨rfl, hb3⟩
  have hs3 := hb3.size
  have HE : Hid (WO w w3.heap.size [] none 0 (w3.alloc (.cells #[.int .u64 0, .int .u64 0] 27))) := ⟨WiIs.new w3, Seg.nil _ _, by intro j hj; simp [blockOf] at hj, hb3.alloc hs3 _, hs3⟩
  go_wp2_with fail
  generalize World.alloc w3 _ = W at HE ⊢
  generalize w3.heap.size = g at HE ⊢
  clear hb3 hs3
  go_loopw [5, 6] (fun tv i wr => ∃ (k : Nat) (a : Option Addr) (cap : Nat) (L : List Nat), k ≤ 200 ∧ L.length ≤ k ∧ tv = .slice a L.length cap ∧ i = .int .i64 k ∧ Hid (WO w g L a cap wr)) (fun _ i _ => 200 - (intOf i).toNat)
  case atStart => exact ⟨0, none, 0, [], by omega, by simp, rfl, rfl, HE⟩
  case round =>
    clear HE
    obtain ⟨k, a, cap, L, hk, hLk, rfl, rfl, HE⟩ := hrel
    by_cases hc : k < len0 ∧ k < 200
    · obtain ⟨hc1, hc2⟩ := hc
      have i1 : (k : Int) < (len0 : Int) := by omega
      have i2 : (k : Int) < 200 := by omega
      obtain ⟨b, off, rfl, hbw, hcell⟩ := HR.out (by omega)
      have q0 := hcell k hc1
      have hfk := HF.out k
      have q := q0
      rw [← HE.out.bel.cell (p := ⟨b, off + k, none⟩) hbw] at q
      generalize f k = x at q q0 hfk
      have Q := whid q0
      clear hcell q0
      go_wp2_with fail
      refine (wfresh_any _ _ _ _ HE.out.win hfk).mono ?_
      rintro e w4 ⟨rfl, rfl⟩
      go_wp2_with fail
      refine (wtake_any _ _ _ _ HE.out.win hfk).mono ?_
      rintro e w5 ⟨rfl, h5, o5⟩
      have hO := once L x
      have hne : ∀ j, blockOf a = some j → j ≠ g := fun j hj => by have := HE.out.hi j hj; omega
      have hS5 : Seg w5 23 a L.length cap (L.map uq) := HE.out.seg.kept fun j hj => o5.1.block j (HE.out.seg.lt j hj) (fun e => hne j hj (by cases e; rfl))
      have b5 := below_only HE.out.bel o5 HE.out.lo HE.out.win.lt
      have HB5 := whid b5
      have q5 := Q.out
      rw [← b5.cell (p := ⟨b, off + k, none⟩) hbw] at q5
      have hlo := HE.out.lo
      have hhi := HE.out.hi
      clear q o5 b5 HE hne
      cases hfr : wFresh L x with
      | false =>
        have eT : wTake L x = L := by unfold wTake; rw [hfr]; rfl
        rw [eT] at h5 hO
        have HE6 : Hid (WO w g L a cap w5) := ⟨h5, hS5, hhi, HB5.out, hlo⟩
        clear eT hS5 HB5
        go_wp2_with fail
        refine (wfresh_any _ _ _ _ h5 hfk).mono ?_
        rintro e w6 ⟨rfl, rfl⟩
        rw [hO]
        go_wp2_with fail
        go_loopw [9] (fun i2 wr2 => i2 = .int .i64 0 ∧ wr2 = w6) (fun _ _ => 0)
        case atStart => exact ⟨rfl, rfl⟩
        case round =>
          obtain ⟨rfl, rfl⟩ := hrel
          by_cases hl0 : 0 < L.length
          case' pos => have i3 : (0 : Int) < (L.length : Int) := by omega
          case' neg => have i3 : ¬ (0 : Int) < (L.length : Int) := by omega
          all_goals
            go_wp2_with fail
            exact ⟨⟨k + 1, a, cap, L, by omega, by omega, rfl, by go_num, HE6⟩, by simp [intOf]; omega⟩
      | true =>
        have eT : wTake L x = L ++ [x] := by unfold wTake; rw [hfr]; rfl
        have hfn := fresh_not hfr
        rw [eT] at h5 hO
        go_wp2_with fail
        refine (wfresh_any _ _ _ _ h5 hfk).mono ?_
        rintro e w6 ⟨rfl, rfl⟩
        rw [hO]
        have HI : Hid (WiIs w6 g (L ++ [x]) ∧ Seg w6 23 a L.length cap (L.map uq) ∧ Below w.heap.size w w6) := ⟨h5, hS5, HB5.out⟩
        clear h5 hO hS5 HB5 eT q5
        go_wp2_with fail
        go_loopw [9] (fun i2 wr2 => ∃ j : Nat, j ≤ L.length ∧ i2 = .int .i64 j ∧ Hid (WiIs wr2 g (L ++ [x]) ∧ Seg wr2 23 a L.length cap (L.map uq) ∧ Below w.heap.size w wr2)) (fun i2 _ => L.length - (intOf i2).toNat)
        case atStart => exact ⟨0, Nat.zero_le _, rfl, HI⟩
        case round =>
          clear HI
          obtain ⟨j, hj, rfl, HI⟩ := hrel
          by_cases hl0 : j < L.length
          · have i3 : (j : Int) < (L.length : Int) := by omega
            go_wp2_with fail
            refine wp_region_sched' (G := Stays) (by kernel_rfl) Stays.refl Stays.trans (by kernel_rfl) [(0, true), (1, true), (2, true), (3, true), (4, true), (5, true), (6, true), (7, true), (8, true)] rfl (by kernel_rfl) ?_
            intro KK hKK
            have HI2 : Hid (WiIs wr.drew g (L ++ [x]) ∧ Seg wr.drew 23 a L.length cap (L.map uq) ∧ Below w.heap.size w wr.drew) := ⟨HI.out.1.kept rfl, HI.out.2.1.drew, HI.out.2.2.drew⟩
            generalize World.drew _ = W2 at HI2 ⊢
            clear HI
            obtain ⟨ga, oa, rfl, hca, _⟩ := HI2.out.2.1.cell j hl0
            have hxj : W2.cell? ⟨ga, oa + j, none⟩ = some (.int .u64 ((L[j] : Nat) : Int)) := by rw [hca, List.getElem?_map, List.getElem?_eq_getElem hl0]; rfl
            have hx2 := Q.out
            rw [← HI2.out.2.2.cell (p := ⟨b, off + k, none⟩) hbw] at hx2
            have hnn := hfn j hl0
            generalize L[j] = y at hxj hnn
            clear hca
            iterate 9 (refine sched_take rfl (by rfl) (v := ?_) ?_ ?_; rotate_left; (intro w2 hw2; cases hw2; go_simp; with_reducible rfl); go_simp)
            refine sched_done hKK ?_
            go_wp2_with fail
            exact ⟨⟨j + 1, by omega, by go_num, HI2⟩, by simp [intOf]; omega⟩
          · have i3 : ¬ (j : Int) < (L.length : Int) := by omega
            obtain ⟨hI1, hI2, hI3⟩ := HI.out
            have hx2 := Q.out
            rw [← hI3.cell (p := ⟨b, off + k, none⟩) hbw] at hx2
            obtain ⟨i0, hi, hz0, hz1, hz2⟩ := info_parts (show (Try.prog.info? 23).map (fun i => (i.zero, i.size, i.bytes)) = some (some (.int .u64 0), 1, 8) by kernel_rfl)
            obtain ⟨a2, cap2, W3, hap, hs2, hgr, hfr2, hsz2⟩ := append_seg (P := Try.prog) 22 22 23 i0 (.int .u64 0) 8 Try.underlying22 hi hz0 hz1 hz2 rfl wr a L.length cap (L.map uq) hI2 (.int .u64 (x : Int)) rfl (by unfold maxLen; omega) (by omega)
            have HE6 : Hid (WO w g (L ++ [x]) a2 cap2 W3) := by
              have hgl := hI1.lt
              have hgn : ∀ jj, blockOf a = some jj → jj ≠ g := fun jj hjj => by have := hhi jj hjj; omega
              refine ⟨hI1.kept (hgr.block g hgl (fun e => hgn g e.symm rfl)), by rw [List.length_append]; simpa [uq] using hs2, fun jj hjj => ?_, hI3.grown hgr hI3.size (fun jj hjj => by have := hhi jj hjj; omega), hlo⟩
              rcases hfr2 with e | e
              · exact hhi jj (by rw [← e]; exact hjj)
              · have := e jj hjj; omega
            have hl2 : Hid (Value.slice a2 (L.length + 1) cap2 = Value.slice a2 (L ++ [x]).length cap2) := whid (by simp)
            have HAP := whid hap
            clear hap hs2 hgr hfr2 hsz2 hI1 hI2 hI3 HI
            go_wp2_with (at_builtin; refine wpList_append_run rfl (.tmp 65) (.tmp 70) 22 rfl _ _ _ _ rfl rfl HAP.out ?_)
            exact ⟨⟨k + 1, a2, cap2, L ++ [x], by omega, by simp; omega, hl2.out, by go_num, HE6⟩, by simp [intOf]; omega⟩
    · have b0 := HE.out.bel
      clear HE HR HF
      by_cases hk1 : k < len0
      case' pos =>
        have i1 : (k : Int) < (len0 : Int) := by omega
        have i2 : ¬ (k : Int) < 200 := by omega
      case' neg => have i1 : ¬ (k : Int) < (len0 : Int) := by omega
      all_goals
        go_wp2_with fail
        go_ret
        exact ⟨rfl, b0⟩
end Go.Proofs.Ytciolibeonlijaa.windowOnce
