/- The walk over the document's Rekey (stage 9). -/
import Derived.Test.YtdancpcnjklifaaDoorRefCj
import Derived.Test.YtdancpcnjklifaaDoorSchedV
namespace Go.Proofs.YtdancpcnjklifaaDoor
set_option linter.unusedVariables false
set_option maxRecDepth 100000
open Go.RowKit

set_option maxHeartbeats 4000000 in
theorem refCRekey_any (g off t : Nat) (L : List Value) (kb koff kc : Nat) (key : List UInt8) (has : Bool) (n : Nat) (w : World) (hR : RC w g off t L kb koff kc key has n) :
    Calls Tryd.prog 15 #[.pointer (some ⟨g, off, none⟩)] w fun e w' => (∃ v, e = .returned v) ∧ w.grownBy w' (some g) ∧ ∃ kb' koff' kc' L', RC w' g off t L' kb' koff' kc' (rekB key has) has n ∧ L'.length = L.length ∧ (kb' = kb ∨ w.heap.size ≤ kb') := by
  have hgl := hR.lt
  have HR : Hid (RC w g off t L kb koff kc key has n) := hR
  obtain ⟨q1, q2, q3, _, _⟩ := hR.cells
  clear hR
  cases has with
  | false =>
    go_enter Tryd.func15, Tryd.ntmps15
    go_wp2
    refine bodyPost_end (results_none rfl _ _ _) rfl ?_
    exact ⟨⟨_, rfl⟩, grownBy_refl _ _, kb, koff, kc, L, HR.out, rfl, .inl rfl⟩
  | true =>
    go_enter Tryd.func15, Tryd.ntmps15
    go_wp2
    obtain ⟨W, hW⟩ : ∃ W, w.drew = W := ⟨_, rfl⟩
    have hgr : Below w.heap.size w W := by rw [← hW]; exact (Below.refl _ _).drew
    have HWW := ci_hid hgr
    have HRW := ci_hid (HR.out.later hgr)
    have HCe : Hid (∀ w', Grows W w' → w'.cell? ⟨g, off, none⟩ = some (.slice (some ⟨kb, koff, none⟩) 32 kc)) := fun w' hw' => (HRW.out.later hw').cells.1
    have hWe : Hid (w.drew = W) := hW
    clear hW hgr q1 q2 q3
    rw [← hWe.out] at HWW HRW HCe
    clear hWe
    refine wp_region_vals 9 (by decide) (by kernel_rfl) (by kernel_rfl) (by kernel_rfl) (by kernel_rfl)
      (fun j x W' => match j with
        | 4 => x = .slice (some ⟨kb, koff, none⟩) 32 kc
        | 5 => ∃ nb nc, x = .slice (some ⟨nb, 0, none⟩) 12 nc ∧ 12 ≤ nc ∧ nc ≤ 9223372036854775807 ∧ Byt W' (some ⟨nb, 0, none⟩) 12 (nonceB lastN)
        | 6 => ∃ zb, x = .slice (some ⟨zb, 0, none⟩) 32 32 ∧ Byt W' (some ⟨zb, 0, none⟩) 32 (List.replicate 32 0)
        | 7 => ∃ vb vc, x = .slice (some ⟨vb, 0, none⟩) 48 vc ∧ w.heap.size ≤ vb ∧ 48 ≤ vc ∧ vc ≤ 9223372036854775807 ∧ Byt W' (some ⟨vb, 0, none⟩) 32 (rekB key true)
        | 8 => ∃ vb vc, x = .slice (some ⟨vb, 0, none⟩) 32 vc ∧ w.heap.size ≤ vb ∧ 48 ≤ vc ∧ vc ≤ 9223372036854775807 ∧ Byt W' (some ⟨vb, 0, none⟩) 32 (rekB key true)
        | _ => x = .pointer (some ⟨g, off, none⟩)) ?_ ?_ ?_
    · intro j x W W' h hb
      match j with
      | 5 => obtain ⟨nb, nc, h1, h2, h3, h4⟩ := h; exact ⟨nb, nc, h1, h2, h3, h4.later hb⟩
      | 6 => obtain ⟨zb, h1, h2⟩ := h; exact ⟨zb, h1, h2.later hb⟩
      | 7 => obtain ⟨vb, vc, h1, h2, h3, h4, h5⟩ := h; exact ⟨vb, vc, h1, h2, h3, h4, h5.later hb⟩
      | 8 => obtain ⟨vb, vc, h1, h2, h3, h4, h5⟩ := h; exact ⟨vb, vc, h1, h2, h3, h4, h5.later hb⟩
      | 0 | 1 | 2 | 3 | 4 | n + 9 => exact h
    · intro d v W' i o A hi ho hv hdep hA hb
      have hW' := HWW.out.trans (hb.mono HWW.out.size)
      have hcs : i = 0 ∨ i = 1 ∨ i = 2 ∨ i = 3 ∨ i = 4 ∨ i = 5 ∨ i = 6 ∨ i = 7 ∨ i = 8 := by omega
      rcases hcs with rfl | rfl | rfl | rfl | rfl | rfl | rfl | rfl | rfl
      · cases ho
        have h0 : A.tmps[0]?.getD undef = .pointer (some ⟨g, off, none⟩) := slotv ((hA.keep 0 (by kernel_rfl)).trans rfl)
        exact ⟨rfl, oper_val (v := .pointer (some ⟨g, off, none⟩)) (w' := W') (by go_simp) ⟨_, rfl, rfl, Below.refl _ _⟩⟩
      · cases ho
        have h0 : A.tmps[0]?.getD undef = .pointer (some ⟨g, off, none⟩) := slotv ((hA.keep 0 (by kernel_rfl)).trans rfl)
        exact ⟨rfl, oper_val (v := .pointer (some ⟨g, off, none⟩)) (w' := W') (by go_simp) ⟨_, rfl, rfl, Below.refl _ _⟩⟩
      · cases ho
        have h0 : A.tmps[7]?.getD undef = .pointer (some ⟨g, off, none⟩) := slotv ((hA.got hdep 1 7 (by decide) (by kernel_rfl) rfl (of_decide_eq_true (by kernel_rfl))).trans (hv 1 (by decide) (vdone hdep 1 (by kernel_rfl))))
        exact ⟨rfl, oper_val (v := .pointer (some ⟨g, off, none⟩)) (w' := W') (by go_simp) ⟨_, rfl, rfl, Below.refl _ _⟩⟩
      · cases ho
        have h0 : A.tmps[8]?.getD undef = .pointer (some ⟨g, off, none⟩) := slotv ((hA.got hdep 2 8 (by decide) (by kernel_rfl) rfl (of_decide_eq_true (by kernel_rfl))).trans (hv 2 (by decide) (vdone hdep 2 (by kernel_rfl))))
        exact ⟨rfl, oper_val (v := .pointer (some ⟨g, off, none⟩)) (w' := W') (by go_simp) ⟨_, rfl, rfl, Below.refl _ _⟩⟩
      · cases ho
        have h0 : A.tmps[9]?.getD undef = .pointer (some ⟨g, off, none⟩) := slotv ((hA.got hdep 3 9 (by decide) (by kernel_rfl) rfl (of_decide_eq_true (by kernel_rfl))).trans (hv 3 (by decide) (vdone hdep 3 (by kernel_rfl))))
        have q1 := HCe.out W' hb
        exact ⟨rfl, oper_val (v := .slice (some ⟨kb, koff, none⟩) 32 kc) (w' := W') (by go_simp) ⟨_, rfl, rfl, Below.refl _ _⟩⟩
      · cases ho
        refine ⟨rfl, oper_call (f := 26) (args := #[.int .u64 18446744073709551615]) (by go_simp) ((refNonce_any 18446744073709551615 (by omega) W').mono ?_)⟩
        rintro e w2 ⟨nb, nc, rfl, hb2, hnc1, hnc2, hB2⟩
        exact ⟨_, rfl, _, rfl, ⟨nb, nc, rfl, hnc1, hnc2, hB2⟩, hb2⟩
      · cases ho
        have hmk : (Instr.makeSlice 29 (.int .i64 32) (.int .i64 32)).run Tryd.prog W' = .ok (.slice (some ⟨W'.heap.size, 0, none⟩) 32 32) (W'.alloc (.cells ((List.replicate 32 (0 : UInt8)).map bv).toArray 5)) := make_zero W' 32 (by omega)
        have hb3 : Below W'.heap.size W' (W'.alloc (.cells ((List.replicate 32 (0 : UInt8)).map bv).toArray 5)) := (Below.refl _ _).alloc (Nat.le_refl _) _
        have hA3 : Arr (W'.alloc (.cells ((List.replicate 32 (0 : UInt8)).map bv).toArray 5)) W'.heap.size 5 (List.replicate 32 0) := Arr.new W' _ _
        obtain ⟨w3, hw3⟩ : ∃ w3, W'.alloc (.cells ((List.replicate 32 (0 : UInt8)).map bv).toArray 5) = w3 := ⟨_, rfl⟩
        rw [hw3] at hmk hb3 hA3
        exact ⟨rfl, oper_val (v := .slice (some ⟨W'.heap.size, 0, none⟩) 32 32) (w' := w3) (by go_simp) ⟨_, rfl, ⟨_, rfl, hA3.byt 32 rfl⟩, hb3⟩⟩
      · cases ho
        have h4 : A.tmps[10]?.getD undef = .slice (some ⟨kb, koff, none⟩) 32 kc := slotv ((hA.got hdep 4 10 (by decide) (by kernel_rfl) rfl (of_decide_eq_true (by kernel_rfl))).trans (hv 4 (by decide) (vdone hdep 4 (by kernel_rfl))))
        obtain ⟨nb, nc, h5, hnc1, hnc2, hBn⟩ := hv 5 (by decide) (vdone hdep 5 (by kernel_rfl))
        replace h5 := slotv ((hA.got hdep 5 11 (by decide) (by kernel_rfl) rfl (of_decide_eq_true (by kernel_rfl))).trans h5)
        obtain ⟨zb, h6, hBz⟩ := hv 6 (by decide) (vdone hdep 6 (by kernel_rfl))
        replace h6 := slotv ((hA.got hdep 6 12 (by decide) (by kernel_rfl) rfl (of_decide_eq_true (by kernel_rfl))).trans h6)
        have hR' := HRW.out.later hb
        refine ⟨rfl, oper_call (f := 25) (args := #[.slice (some ⟨kb, koff, none⟩) 32 kc, .slice (some ⟨nb, 0, none⟩) 12 nc, .slice none 0 0, .slice (some ⟨zb, 0, none⟩) 32 32]) (by go_simp)
          ((refSeal_any kb koff nb 0 kc nc key (nonceB lastN) none 0 0 [] (some ⟨zb, 0, none⟩) 32 32 (List.replicate 32 0) W' hR'.lo hnc1 hR'.hi hnc2 hR'.key hBn ⟨rfl, .inl rfl⟩ (fun _ => rfl) hBz (by omega) (by omega) (by omega) (by unfold maxLen; omega)).mono ?_)⟩
        rintro e w4 ⟨v4, rfl, hb4, own4⟩
        obtain ⟨vb, vc, rfl, hvb, hs4⟩ := own_slice own4 (by omega)
        obtain ⟨a', c', e', hB4, hc1, hc2, _⟩ := own_parts own4
        cases e'
        have hvc : vc ≤ 9223372036854775807 := by unfold maxLen at hc2; omega
        exact ⟨_, rfl, _, rfl, ⟨vb, vc, rfl, Nat.le_trans hW'.size hvb, hc1, hvc, hB4.cut (q := 32) (by omega)⟩, hb4⟩
      · cases ho
        obtain ⟨vb, vc, h7, hvb, hc1, hc2, hB7⟩ := hv 7 (by decide) (vdone hdep 7 (by kernel_rfl))
        replace h7 := slotv ((hA.got hdep 7 13 (by decide) (by kernel_rfl) rfl (of_decide_eq_true (by kernel_rfl))).trans h7)
        have i1 : (32 : Int) ≤ (vc : Int) := by omega
        exact ⟨rfl, oper_val (v := .slice (some ⟨vb, 0, none⟩) 32 vc) (w' := W') (by go_simp) ⟨_, rfl, ⟨vb, vc, rfl, hvb, hc1, hc2, hB7⟩, Below.refl _ _⟩⟩
    · intro v W' hv hb
      have e0 := hv 0 (by decide)
      have e8 := hv 8 (by decide)
      obtain ⟨vb, vc, e8, hvb, hc1, hc2, hB8⟩ := e8
      have hR' := HRW.out.later hb
      have hW' := HWW.out.trans (hb.mono HWW.out.size)
      have hvg : vb ≠ g := by omega
      have HR5 := ci_hid (hR'.setK vb 0 vc (rekB key true) (by omega) hc2 hB8 hvg)
      have HG5 : Hid (w.grownBy (W'.setCell ⟨g, off, none⟩ (.slice (some ⟨vb, 0, none⟩) 32 vc)) (some g)) := World.grownBy.trans (But.below g hW') (But.setCell W' g _ _)
      obtain ⟨q1, q2, q3, q4, q5⟩ := hR'.cells
      clear hR' hB8
      refine vtail (a' := { tmps := #[.pointer (some ⟨g, off, none⟩), undef, .pointer (some ⟨g, off, none⟩), .pointer (some ⟨g, off, none⟩), .pointer (some ⟨g, off + 1, none⟩), .bool true, v 0, v 1, v 2, v 3, v 4, v 5, v 6, v 7, v 8, undef, undef], defers := [] }) rfl (by kernel_rfl) ?_
      rw [e0, e8]
      go_wp2
      refine bodyPost_end (results_none rfl _ _ _) rfl ?_
      exact ⟨⟨_, rfl⟩, HG5.out, vb, 0, vc, _, HR5.out, by simp, .inr hvb⟩
end Go.Proofs.YtdancpcnjklifaaDoor
