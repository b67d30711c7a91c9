/- The walk over the document's window: Top, Fresh, Take (stage 11). -/
import Derived.Test.YtciolibeonlijaaWinS
namespace Go.Proofs.Ytciolibeonlijaa
set_option linter.unusedVariables false
set_option maxRecDepth 100000
open Go.RowKit

def uq (n : Nat) : Value := .int .u64 (n : Int)
/-- The same memory, of which some orders were drawn. -/
def Drew (w w' : World) : Prop := ∃ k, w' = w.drewN k
/-- The document's window in its block: all numbers that were taken, in a row that lies behind it. -/
structure RwIs (W : World) (g : Nat) (a : Option Addr) (cap : Nat) (L : List Nat) : Prop where
  row : W.heap[g]? = some (.cells #[.slice a L.length cap] 30 (0, 0))
  seg : Seg W 23 a L.length cap (L.map uq)
  hi : ∀ j, blockOf a = some j → g < j
  lim : ∀ x ∈ L, x < 18446744073709551616
section
variable {W W' : World} {g cap : Nat} {a : Option Addr} {L : List Nat}
theorem RwIs.lt (h : RwIs W g a cap L) : g < W.heap.size := (Array.getElem?_eq_some_iff.1 h.row).1
theorem RwIs.kept (h : RwIs W g a cap L) (e : ∀ j, j < W.heap.size → g ≤ j → W'.heap[j]? = W.heap[j]?) : RwIs W' g a cap L :=
  ⟨by rw [e g h.lt (Nat.le_refl _)]; exact h.row, h.seg.kept fun j hj => e j (h.seg.lt j hj) (by have := h.hi j hj; omega), h.hi, h.lim⟩
theorem RwIs.drew (h : RwIs W g a cap L) : RwIs W.drew g a cap L := h.kept fun _ _ _ => rfl
theorem RwIs.c0 (h : RwIs W g a cap L) : W.cell? ⟨g, 0, none⟩ = some (.slice a L.length cap) := by rw [cell_of_row W g 0 _ _ (0, 0) h.row]; rfl
theorem RwIs.at_ (h : RwIs W g a cap L) (i : Nat) (hi : i < L.length) : ∃ b off, a = some ⟨b, off, none⟩ ∧ W.cell? ⟨b, off + i, none⟩ = some (.int .u64 ((L[i]'hi : Nat) : Int)) := by
  obtain ⟨b, off, e, hc, _⟩ := h.seg.cell i hi
  refine ⟨b, off, e, ?_⟩
  rw [hc, List.getElem?_map, List.getElem?_eq_getElem hi]
  rfl
end
theorem wTop_lt {c : Nat} (hc : 0 < c) : ∀ L : List Nat, (∀ x ∈ L, x < c) → wTop L < c
  | [], _ => by simpa [wTop] using hc
  | x :: l, h => by
    have h1 := wTop_lt hc l (fun y hy => h y (List.mem_cons_of_mem _ hy))
    have h2 := h x (by simp)
    rw [wTop]; omega
theorem ohidW {p : Prop} (h : p) : Hid p := h
theorem wTop_take (L : List Nat) (i : Nat) (hi : i < L.length) : wTop (L.take (i + 1)) = max (wTop (L.take i)) (L[i]'hi) := by
  rw [List.take_succ_eq_append_getElem hi, wTop_snoc]

set_option maxHeartbeats 400000 in
theorem rtop_any (g : Nat) (a : Option Addr) (cap : Nat) (L : List Nat) (w : World) (h : RwIs w g a cap L) (hlen : L.length ≤ 1000) :
    Calls Try.prog 12 #[.pointer (some ⟨g, 0, none⟩)] w fun e w' => e = .returned (.tuple #[.int .u64 (wTop L : Int), .bool (decide (L ≠ []))]) ∧ Drew w w' := by
  have c0 := h.c0
  have hz : (decide (L ≠ [])) = decide (0 < L.length) := by
    refine decide_eq_decide.2 ?_
    rw [← List.length_pos_iff]
  rw [hz]
  clear hz
  go_enter Try.func12, Try.ntmps12
  go_wp2
  go_loopw [4, 5] (fun o i wr => ∃ k : Nat, k ≤ L.length ∧ o = .int .u64 (wTop (L.take k) : Int) ∧ i = .int .i64 k ∧ wr = w) (fun _ i _ => L.length - (intOf i).toNat)
  case atStart => exact ⟨0, Nat.zero_le _, rfl, rfl, rfl⟩
  case round =>
    obtain ⟨k, hk, rfl, rfl, rfl⟩ := hrel
    by_cases hlt : k < L.length
    · have i1 : (k : Int) < (L.length : Int) := by omega
      obtain ⟨b, off, rfl, hc⟩ := h.at_ k hlt
      have ht := wTop_take L k hlt
      generalize L[k] = x at hc ht
      obtain ⟨t, ht'⟩ : ∃ t, wTop (L.take k) = t := ⟨_, rfl⟩
      rw [ht'] at ht ⊢
      go_wp2
      refine ⟨⟨k + 1, by omega, ?_, by go_num, trivial⟩, by simp [intOf]; omega⟩
      rw [ht]
      congr 1
      split <;> omega
    · have i1 : ¬ (k : Int) < (L.length : Int) := by omega
      rw [List.take_of_length_le (by omega)]
      have hd := h.drew.c0
      go_wp2
      refine wp_region_sched' (G := Stays) (by kernel_rfl) Stays.refl Stays.trans (by kernel_rfl) [(0, true), (1, true), (2, true), (3, true), (4, true), (5, true), (6, true), (7, true), (8, true)] rfl (by kernel_rfl) ?_
      intro KK hKK
      iterate 9 (refine sched_take rfl (by rfl) (v := ?_) ?_ ?_; rotate_left; (intro w2 hw2; cases hw2; go_simp; with_reducible rfl); go_simp)
      refine sched_done hKK ?_
      go_wp2
      go_ret2
      exact ⟨rfl, 1, rfl⟩

set_option maxHeartbeats 400000 in
theorem rfresh_any (g : Nat) (a : Option Addr) (cap : Nat) (L : List Nat) (n : Nat) (w : World) (h : RwIs w g a cap L) (hlen : L.length ≤ 1000) (hn : n < 18446744073709551616) :
    Calls Try.prog 14 #[.pointer (some ⟨g, 0, none⟩), .int .u64 (n : Int)] w fun e w' => e = .returned (.bool (wFresh L n)) ∧ Drew w w' := by
  obtain ⟨F, hF⟩ : ∃ F, wFresh L n = F := ⟨_, rfl⟩
  rw [hF]
  have HF := ohidW hF
  clear hF
  obtain ⟨t, ht⟩ : ∃ t, wTop L = t := ⟨_, rfl⟩
  obtain ⟨q, hq⟩ : ∃ q, decide (L ≠ []) = q := ⟨_, rfl⟩
  have HT := ohidW ht
  have HQ := ohidW hq
  have hl0 : q = false → t = 0 := fun e => by
    rw [← hq] at e
    have : L = [] := by simpa using e
    rw [← ht, this]; rfl
  have htop := rtop_any g a cap L w h hlen
  rw [ht, hq] at htop
  have htl : t < 18446744073709551616 := by rw [← ht]; exact wTop_lt (by decide) L h.lim
  clear ht hq
  go_enter Try.func14, Try.ntmps14
  go_wp2_with fail
  refine htop.mono ?_
  rintro e w' ⟨rfl, k0, rfl⟩
  clear htop
  have h1 : RwIs (w.drewN k0) g a cap L := h.kept fun _ _ _ => rfl
  have c0 := h1.c0
  clear h
  by_cases hm : n = 18446744073709551615
  · subst hm
    go_wp2_with fail
    go_ret
    have hv : F = false := by rw [← HF.out]; unfold wFresh; exact decide_eq_false (fun e => e.1 rfl)
    rw [hv]
    exact ⟨rfl, k0, rfl⟩
  · have hm' : ((n : Int) == 18446744073709551615) = false := by rw [beq_eq_false_iff_ne]; omega
    by_cases hfar : n + 64 ≤ t
    · obtain rfl : q = true := by cases q with
        | true => rfl
        | false => have := hl0 rfl; omega
      obtain ⟨d, hd⟩ : ∃ d, t - n = d := ⟨_, rfl⟩
      have hw : IntKind.u64.wrap ((t : Int) - (n : Int)) = (d : Int) := by
        rw [IntKind.wrap_u64]; omega
      have i1 : (n : Int) < (t : Int) := by omega
      have i2 : 64 ≤ (d : Int) := by omega
      go_wp2_with fail
      go_ret
      have hv : F = false := by rw [← HF.out]; unfold wFresh; exact decide_eq_false (fun e => by have := e.2.1; rw [HT.out] at this; omega)
      rw [hv]
      exact ⟨rfl, k0, rfl⟩
    · have HC : Hid (n ≠ 18446744073709551615 ∧ wTop L < n + 64) := ⟨hm, by rw [HT.out]; omega⟩
      have hlt : q = false ∨ q = true ∧ ¬ n < t ∨ q = true ∧ n < t := by cases q <;> simp <;> omega
      clear hl0
      rcases hlt with rfl | ⟨rfl, hlt⟩ | ⟨rfl, hlt⟩
      case' inl => go_wp2_with fail
      case' inr.inl =>
        have i1 : ¬ (n : Int) < (t : Int) := by omega
        go_wp2_with fail
      case' inr.inr =>
        obtain ⟨d, hd⟩ : ∃ d, t - n = d := ⟨_, rfl⟩
        have hw : IntKind.u64.wrap ((t : Int) - (n : Int)) = (d : Int) := by rw [IntKind.wrap_u64]; omega
        have i1 : (n : Int) < (t : Int) := by omega
        have i2 : ¬ 64 ≤ (d : Int) := by omega
        go_wp2_with fail
      all_goals
        go_loopw [7] (fun i wr => ∃ k : Nat, k ≤ L.length ∧ i = .int .i64 k ∧ n ∉ L.take k ∧ wr = w.drewN k0) (fun i _ => L.length - (intOf i).toNat)
        case atStart => exact ⟨0, Nat.zero_le _, rfl, by simp, rfl⟩
        case round =>
          obtain ⟨k, hk, rfl, hnot, rfl⟩ := hrel
          by_cases hk2 : k < L.length
          · have j1 : (k : Int) < (L.length : Int) := by omega
            obtain ⟨b, off, rfl, hc⟩ := h1.at_ k hk2
            by_cases he : L[k] = n
            · rw [he] at hc
              go_wp2_with fail
              go_ret
              have hv : F = false := by rw [← HF.out]; unfold wFresh; exact decide_eq_false (fun e => e.2.2 (by rw [← he]; exact List.getElem_mem hk2))
              rw [hv]
              exact ⟨rfl, k0, rfl⟩
            · have hnk : n ∉ L.take (k + 1) := by
                rw [List.take_succ_eq_append_getElem hk2, List.mem_append, List.mem_singleton]
                rintro (e | e)
                · exact hnot e
                · exact he e.symm
              generalize L[k] = x at hc he
              have j2 : ¬ (x : Int) = (n : Int) := by omega
              go_wp2_with fail
              exact ⟨⟨k + 1, by omega, by go_num, hnk, trivial⟩, by simp [intOf]; omega⟩
          · have j1 : ¬ (k : Int) < (L.length : Int) := by omega
            rw [List.take_of_length_le (by omega)] at hnot
            go_wp2_with fail
            go_ret
            have hv : F = true := by rw [← HF.out]; unfold wFresh; exact decide_eq_true ⟨HC.out.1, HC.out.2, hnot⟩
            rw [hv]
            exact ⟨rfl, k0, rfl⟩

set_option maxHeartbeats 400000 in
theorem rtake_any (g : Nat) (a : Option Addr) (cap : Nat) (L : List Nat) (n : Nat) (w : World) (h : RwIs w g a cap L) (hlen : L.length ≤ 1000) (hn : n < 18446744073709551616) :
    Calls Try.prog 10 #[.pointer (some ⟨g, 0, none⟩), .int .u64 (n : Int)] w fun e w' => e = .returned (.bool (wFresh L n)) ∧ (∃ a' cap', RwIs w' g a' cap' (wTake L n)) ∧ Below g w w' := by
  go_enter Try.func10, Try.ntmps10
  go_wp2_with fail
  refine (rfresh_any g a cap L n w h hlen hn).mono ?_
  rintro e w' ⟨rfl, k0, rfl⟩
  have h1 : RwIs (w.drewN k0) g a cap L := h.kept fun _ _ _ => rfl
  have b1 : Below g w (w.drewN k0) := below_drewN (Below.refl _ _) k0
  generalize w.drewN k0 = W1 at h1 b1 ⊢
  clear h
  cases hf : wFresh L n with
  | false =>
    have eT : wTake L n = L := by unfold wTake; rw [hf]; rfl
    have HE : Hid (∃ a' cap', RwIs W1 g a' cap' (wTake L n)) := ohidW (by rw [eT]; exact ⟨_, _, h1⟩)
    clear h1 eT
    go_wp2_with fail
    go_ret
    exact ⟨by rw [hf]; rfl, HE.out, b1⟩
  | true =>
    have eT : wTake L n = L ++ [n] := by unfold wTake; rw [hf]; rfl
    have c0 := h1.c0
    obtain ⟨i0, hi, hz0, hz1, hz2⟩ := info_parts (show (Try.prog.info? 23).map (fun i => (i.zero, i.size, i.bytes)) = some (some (.int .u64 0), 1, 8) by kernel_rfl)
    obtain ⟨a2, cap2, W3, hap, hs2, hgr, hfr2, hsz2⟩ := append_seg (P := Try.prog) 22 22 23 i0 (.int .u64 0) 8 Try.underlying22 hi hz0 hz1 hz2 rfl W1 a L.length cap (L.map uq) h1.seg (.int .u64 (n : Int)) rfl (by unfold maxLen; omega) (by omega)
    have hgn : ∀ jj, blockOf a = some jj → jj ≠ g := fun jj hjj => by have := h1.hi jj hjj; omega
    have hrow3 : W3.heap[g]? = some (.cells #[.slice a L.length cap] 30 (0, 0)) := by
      rw [hgr.block g h1.lt (fun e => hgn g e.symm rfl)]; exact h1.row
    have hhi2 : ∀ jj, blockOf a2 = some jj → g < jj := fun jj hjj => by
      rcases hfr2 with e | e
      · exact h1.hi jj (by rw [← e]; exact hjj)
      · have := e jj hjj; have := h1.lt; omega
    have df := frozen_of_row W3 g 0 _ _ hrow3
    have dc : W3.cell? ⟨g, 0, none⟩ = some (.slice a L.length cap) := by rw [cell_of_row W3 g 0 _ _ (0, 0) hrow3]; rfl
    have HE : Hid ((∃ a' cap', RwIs (W3.setCell ⟨g, 0, none⟩ (.slice a2 (L.length + 1) cap2)) g a' cap' (wTake L n)) ∧ Below g w (W3.setCell ⟨g, 0, none⟩ (.slice a2 (L.length + 1) cap2))) := by
      rw [eT]
      refine ⟨⟨a2, cap2, ?_, ?_, hhi2, ?_⟩, ?_⟩
      · rw [heap_setCell_same W3 g 0 _ _ _ hrow3]; simp
      · rw [List.length_append]
        have hs3 : Seg W3 23 a2 (L.length + 1) cap2 ((L ++ [n]).map uq) := by simpa [uq] using hs2
        exact hs3.kept fun jj hjj => heap_setCell_other W3 ⟨g, 0, none⟩ jj _ (fun e => by have := hhi2 jj hjj; have e' : jj = g := e; omega)
      · intro x hx
        rcases List.mem_append.1 hx with hx | hx
        · exact h1.lim x hx
        · rw [List.mem_singleton.1 hx]; exact hn
      · have hlt := h1.lt
        exact (b1.grown hgr (by omega) (fun jj hjj => by have := h1.hi jj hjj; omega)).setCell (p := ⟨g, 0, none⟩) (Nat.le_refl _) _
    have HAP := ohidW hap
    clear hap hs2 hgr hfr2 hsz2 h1 hrow3 hhi2 hgn eT b1
    go_wp2_with (at_builtin; refine wpList_append_run rfl (.tmp 14) (.tmp 16) 22 rfl _ _ _ _ rfl rfl HAP.out ?_)
    go_ret
    exact ⟨by rw [hf]; rfl, HE.out⟩
end Go.Proofs.Ytciolibeonlijaa
