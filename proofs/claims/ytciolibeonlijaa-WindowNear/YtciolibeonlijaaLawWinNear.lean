/- WindowNear: what is near the greatest one may come in any order. For every number and row of steps, without a condition. -/
import Derived.Test.YtciolibeonlijaaWinS
namespace Go.Proofs.Ytciolibeonlijaa.windowNear
open Go.ChangeShapes Go.WideShapes Go.ChangeAt Go.RowKit
set_option linter.unusedVariables false
set_option maxRecDepth 100000

theorem lt_of_heap {w : World} {g : Nat} {o : Obj} (h : w.heap[g]? = some o) : g < w.heap.size := (Array.getElem?_eq_some_iff.1 h).1
/-- Between two rounds: which of the 64 from m on were taken. -/
structure WN (w : World) (g s m : Nat) (W : World) : Prop where
  win : ∃ L, WiIs W g L ∧ (∀ x ∈ L, m ≤ x ∧ x < m + 64) ∧ W.heap[s]? = some (.cells ((List.range 64).map fun j => Value.bool (decide (m + j ∈ L))).toArray 4 (0, 0))
  bel : Below w.heap.size w W
  lo : w.heap.size ≤ g
  los : w.heap.size ≤ s
  ne : g ≠ s
theorem near (L : List Nat) (m k : Nat) (hk : k < 64) (hm : m < 1152921504606846976) (h : ∀ x ∈ L, m ≤ x ∧ x < m + 64) :
    wFresh L (m + k) = !decide (m + k ∈ L) ∧ (∀ x ∈ wTake L (m + k), m ≤ x ∧ x < m + 64) ∧ ∀ j, (m + j ∈ wTake L (m + k) ↔ j = k ∨ m + j ∈ L) := by
  have ht : wTop L < m + 64 := by
    by_cases e : L = []
    · subst e; rw [wTop]; omega
    · exact (h _ (wTop_mem L e)).2
  have hf : wFresh L (m + k) = !decide (m + k ∈ L) := by
    unfold wFresh
    rw [← decide_not]
    exact decide_eq_decide.2 ⟨fun e => e.2.2, fun e => ⟨by omega, by omega, e⟩⟩
  refine ⟨hf, ?_⟩
  unfold wTake
  rw [hf]
  by_cases hm' : m + k ∈ L
  · rw [decide_eq_true hm']
    refine ⟨h, fun j => ⟨.inr, ?_⟩⟩
    rintro (rfl | h')
    · exact hm'
    · exact h'
  · rw [decide_eq_false hm']
    refine ⟨fun x hx => ?_, fun j => ?_⟩
    · rcases List.mem_append.1 hx with hx | hx
      · exact h x hx
      · rw [List.mem_singleton.1 hx]; omega
    · show m + j ∈ L ++ [m + k] ↔ _
      rw [List.mem_append, List.mem_singleton]
      constructor
      · rintro (h' | h')
        · exact .inr h'
        · exact .inl (by omega)
      · rintro (rfl | h')
        · exact .inr rfl
        · exact .inl h'
theorem seen_set (L L' : List Nat) (m k : Nat) (hk : k < 64) (h : ∀ j, (m + j ∈ L' ↔ j = k ∨ m + j ∈ L)) :
    ((List.range 64).map fun j => Value.bool (decide (m + j ∈ L))).toArray.setIfInBounds k (.bool true) = ((List.range 64).map fun j => Value.bool (decide (m + j ∈ L'))).toArray := by
  rw [← Array.toList_inj, Array.toList_setIfInBounds]
  apply List.ext_getElem
  · simp
  · intro j h1 h2
    simp only [List.getElem_set]
    by_cases e : k = j
    · subst e
      simp [(h k).2 (.inl rfl)]
    · rw [if_neg e]
      simp [h j, show ¬ j = k from fun e' => e e'.symm]

theorem make_seen (w : World) : (Instr.makeSlice 37 (.int .i64 64) (.int .i64 64)).run Try.prog w = .ok (.slice (some ⟨w.heap.size, 0, none⟩) 64 64) (w.alloc (.cells (List.replicate 64 (Value.bool false)).toArray 4)) := by
  obtain ⟨i0, hi, hz0, hz1, hz2⟩ := info_parts (show (Try.prog.info? 4).map (fun i => (i.zero, i.size, i.bytes)) = some (some (.bool false), 1, 1) by kernel_rfl)
  have hr := run_make (P := Try.prog) w 37 4 i0 (.bool false) Try.underlying37 hi hz0 .i64 .i64 64 64 (by omega) (by omega) (by rw [hz2]; omega) (by omega)
  have e : madeCells (Value.bool false).cells ((64 : Int).toNat * i0.size) = (List.replicate 64 (Value.bool false)).toArray := by
    rw [hz1, ← Array.toList_inj]
    exact toList_madeCells_one (.bool false) 64
  rw [e] at hr
  exact hr
theorem seen_none (m : Nat) : (List.replicate 64 (Value.bool false)) = (List.range 64).map fun j => Value.bool (decide (m + j ∈ ([] : List Nat))) := by
  apply List.ext_getElem
  · simp
  · intro j h1 h2
    rw [List.getElem_replicate, List.getElem_map]
    rfl
theorem seen_cell {W : World} {s m k : Nat} {L : List Nat} (h : W.heap[s]? = some (.cells ((List.range 64).map fun j => Value.bool (decide (m + j ∈ L))).toArray 4 (0, 0))) (hk : k < 64) :
    W.cell? ⟨s, k, none⟩ = some (.bool (decide (m + k ∈ L))) := by
  rw [cell_of_row W s k _ _ (0, 0) h]
  simp [hk]

set_option maxHeartbeats 2000000 in
theorem walk (a0 : Int) (a1 : Option Addr) (len1 cap1 : Nat) (z1 : List Int) (w : World) (w0 : (Lit.int .u64 a0).wf = true) (w1 : IsRow .u8 w a1 len1 cap1 z1) :
    Calls Try.prog 5 #[.int .u64 a0, .slice a1 len1 cap1] w fun e w' => e = .returned (.bool true) ∧ Below w.heap.size w w' := by
  obtain ⟨n0, rfl, hn0⟩ := u64_of a0 w0
  obtain ⟨f, hf, hrow⟩ := row_byts w1
  have HF := whid hf
  have HR := whid hrow
  have h60 := and60 n0 hn0
  obtain ⟨m, hm0⟩ : ∃ m, n0 % 1152921504606846976 = m := ⟨_, rfl⟩
  have hml : m < 1152921504606846976 := by omega
  rw [hm0] at h60
  clear hf hrow w0 w1 hm0
  go_enter Try.func5, Try.ntmps5
  go_wp2_with fail
  refine (winShown_any _).mono ?_
  rintro e w3 ⟨rfl, hb3⟩
  have hs3 := hb3.size
  have hmk := make_seen (w3.alloc (.cells #[.int .u64 0, .int .u64 0] 27))
  rw [seen_none m] at hmk
  obtain ⟨Z, hZ⟩ : ∃ Z, ((List.range 64).map fun j => Value.bool (decide (m + j ∈ ([] : List Nat)))).toArray = Z := ⟨_, rfl⟩
  rw [hZ] at hmk
  have hbA : Below w.heap.size w (w3.alloc (.cells #[.int .u64 0, .int .u64 0] 27)) := hb3.alloc hs3 _
  have hsA : (w3.alloc (.cells #[.int .u64 0, .int .u64 0] 27)).heap.size = w3.heap.size + 1 := World.size_alloc _ _
  have HE : Hid (WN w w3.heap.size (w3.heap.size + 1) m ((w3.alloc (.cells #[.int .u64 0, .int .u64 0] 27)).alloc (.cells Z 4))) :=
    ⟨⟨[], (WiIs.new w3).kept (Below.heap_alloc _ _ _ (by omega)), by simp, by rw [hZ, ← hsA]; exact heap_alloc_new _ _⟩, hbA.alloc (by omega) _, hs3, by omega, by omega⟩
  clear hZ hbA hb3
  rw [hsA] at hmk
  go_wp2_with fail
  generalize World.alloc (World.alloc w3 _) _ = W at HE ⊢
  generalize w3.heap.size = g at HE ⊢
  obtain ⟨s, hs⟩ : ∃ s, g + 1 = s := ⟨_, rfl⟩
  rw [hs] at HE ⊢
  clear hmk hsA hs3 h60 hs
  go_loopw [8] (fun i wr => ∃ k : Nat, k ≤ 100 ∧ i = .int .i64 k ∧ Hid (WN w g s m wr)) (fun i _ => 100 - (intOf i).toNat)
  case atStart => exact ⟨0, by omega, rfl, HE⟩
  case round =>
    clear HE
    obtain ⟨k, hk, rfl, HE⟩ := hrel
    by_cases hc : k < len1 ∧ k < 100
    · obtain ⟨hc1, hc2⟩ := hc
      have i1 : (k : Int) < (len1 : Int) := by omega
      have i2 : (k : Int) < 100 := by omega
      obtain ⟨b, off, rfl, hbw, hcell⟩ := HR.out (by omega)
      have q := hcell k hc1
      have hfk := and63 (f k) (HF.out k)
      rw [← HE.out.bel.cell (p := ⟨b, off + k, none⟩) hbw] at q
      generalize f k = x at q hfk
      obtain ⟨j, hj⟩ : ∃ j, x % 64 = j := ⟨_, rfl⟩
      have hj64 : j < 64 := by omega
      rw [hj] at hfk
      clear hcell hj
      obtain ⟨L, hL, hx, hseen⟩ := HE.out.win
      obtain ⟨r1, r2, r3⟩ := near L m j hj64 hml hx
      have HS := whid hseen
      have hlo := HE.out.lo
      have hlos := HE.out.los
      have hne := HE.out.ne
      have b0 := HE.out.bel
      clear HE hseen
      go_wp2_with fail
      rw [show (m : Int) + (j : Int) = ((m + j : Nat) : Int) by omega]
      refine (wtake_any _ _ _ _ hL (by omega)).mono ?_
      rintro e w5 ⟨rfl, h5, o5⟩
      rw [r1]
      have HS5 : Hid (w5.heap[s]? = some (.cells ((List.range 64).map fun j => Value.bool (decide (m + j ∈ L))).toArray 4 (0, 0))) := by
        show _ = _
        rw [o5.1.block s (lt_of_heap HS.out) (fun e => hne (by cases e; rfl))]
        exact HS.out
      have c5 := seen_cell HS5.out hj64
      have f5 := frozen_of_row w5 s j _ _ HS5.out
      have b5 := below_only b0 o5 hlo hL.lt
      have hg5 := h5.lt
      have hst := heap_setCell_same w5 s j _ _ (.bool true) HS5.out
      rw [seen_set L _ m j hj64 r3] at hst
      have HE6 : Hid (WN w g s m (w5.setCell ⟨s, j, none⟩ (.bool true))) := ⟨⟨_, h5.kept (heap_setCell_other w5 ⟨s, j, none⟩ g _ hne), r2, hst⟩, b5.setCell (p := ⟨s, j, none⟩) hlos _, hlo, hlos, hne⟩
      clear hL hx HS r1 r2 r3 h5 o5 HS5 b0 b5 hst hg5
      have hbb : ((!decide (m + j ∈ L)) == decide (m + j ∈ L)) = false := by cases decide (m + j ∈ L) <;> rfl
      generalize decide (m + j ∈ L) = d at c5 hbb ⊢
      go_wp2_with fail
      exact ⟨⟨k + 1, by omega, by go_num, HE6⟩, by simp [intOf]; omega⟩
    · have b0 := HE.out.bel
      clear HE HR HF
      by_cases hk1 : k < len1
      case' pos =>
        have i1 : (k : Int) < (len1 : Int) := by omega
        have i2 : ¬ (k : Int) < 100 := by omega
      case' neg => have i1 : ¬ (k : Int) < (len1 : Int) := by omega
      all_goals
        go_wp2_with fail
        go_ret
        exact ⟨rfl, b0⟩
end Go.Proofs.Ytciolibeonlijaa.windowNear
