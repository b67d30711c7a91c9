/- The walk over the program's Rekey (stage 9). -/
import Derived.Test.YtdancpcnjklifaaDoorCipCx
namespace Go.Proofs.YtdancpcnjklifaaDoor
set_option linter.unusedVariables false
set_option maxRecDepth 100000
open Go.RowKit

set_option maxHeartbeats 4000000 in
theorem krekey_any (g t off : Nat) (A B : List Value) (key : List UInt8) (has : Bool) (n : Nat) (w : World) (hK : KC w g t off A B key has n) :
    Calls Tryd.prog 14 #[.pointer (some ⟨g, off, none⟩)] w fun e w' => (∃ v, e = .returned v) ∧ w.grownBy w' (some g) ∧ KC w' g t off A B (rekB key has) has n := by
  have hgl := hK.lt
  have HK := ohid hK
  have q1 := hK.had
  have hkl := hK.k
  clear hK
  cases has with
  | false =>
    go_enter Tryd.func14, Tryd.ntmps14
    go_wp2
    refine bodyPost_ret (results_none rfl _ _ _) rfl ?_
    exact ⟨⟨_, rfl⟩, grownBy_refl _ _, HK.out⟩
  | true =>
    have HI : Hid ((Tryd.prog.info? 23).map (·.size) = some (key.map bv).length) := by
      have e1 : (Tryd.prog.info? 23).map (·.size) = some 32 := by kernel_rfl
      show _ = _
      rw [e1]; simp [hkl]
    go_enter Tryd.func14, Tryd.ntmps14
    go_wp2
    obtain ⟨W, hW⟩ : ∃ W, w.drew = W := ⟨_, rfl⟩
    have hgr : Below w.heap.size w W := by rw [← hW]; exact (Below.refl _ _).drew
    have HWW := ohid hgr
    have HKW := ohid (HK.out.later hgr)
    have hWe : Hid (w.drew = W) := hW
    clear hW hgr q1
    rw [← hWe.out] at HWW HKW
    clear hWe
    refine wp_region_vals 7 (by decide) (by kernel_rfl) (by kernel_rfl) (by kernel_rfl) (by kernel_rfl)
      (fun j x W' => match j with
        | 3 => x = .agg (key.map bv).toArray
        | 4 => x = .agg ((nonceB lastN).map bv).toArray
        | 5 => ∃ zb, x = .slice (some ⟨zb, 0, none⟩) 32 32 ∧ Byt W' (some ⟨zb, 0, none⟩) 32 (List.replicate 32 0)
        | 6 => ∃ vb vc, x = .slice (some ⟨vb, 0, none⟩) 48 vc ∧ w.heap.size ≤ vb ∧ 48 ≤ vc ∧ vc ≤ 9223372036854775807 ∧ Byt W' (some ⟨vb, 0, none⟩) 32 (rekB key true)
        | _ => x = .pointer (some ⟨g, off, none⟩)) ?_ ?_ ?_
    · intro j x W W' h hb
      match j with
      | 5 => obtain ⟨zb, h1, h2⟩ := h; exact ⟨zb, h1, h2.later hb⟩
      | 6 => obtain ⟨vb, vc, h1, h2, h3, h4, h5⟩ := h; exact ⟨vb, vc, h1, h2, h3, h4, h5.later hb⟩
      | 0 | 1 | 2 | 3 | 4 | n + 7 => exact h
    · intro d v W' i o A' hi ho hv hdep hA hb
      have hW' := HWW.out.trans (hb.mono HWW.out.size)
      have hcs : i = 0 ∨ i = 1 ∨ i = 2 ∨ i = 3 ∨ i = 4 ∨ i = 5 ∨ i = 6 := by omega
      rcases hcs with rfl | rfl | rfl | rfl | rfl | rfl | rfl
      · cases ho
        have h0 : A'.tmps[0]?.getD undef = .pointer (some ⟨g, off, none⟩) := slotv ((hA.keep 0 (by kernel_rfl)).trans rfl)
        exact ⟨rfl, oper_val (v := .pointer (some ⟨g, off, none⟩)) (w' := W') (by go_simp) ⟨_, rfl, rfl, Below.refl _ _⟩⟩
      · cases ho
        have h0 : A'.tmps[8]?.getD undef = .pointer (some ⟨g, off, none⟩) := slotv ((hA.got hdep 0 8 (by decide) (by kernel_rfl) rfl (of_decide_eq_true (by kernel_rfl))).trans (hv 0 (by decide) (vdone hdep 0 (by kernel_rfl))))
        exact ⟨rfl, oper_val (v := .pointer (some ⟨g, off, none⟩)) (w' := W') (by go_simp) ⟨_, rfl, rfl, Below.refl _ _⟩⟩
      · cases ho
        have h0 : A'.tmps[9]?.getD undef = .pointer (some ⟨g, off, none⟩) := slotv ((hA.got hdep 1 9 (by decide) (by kernel_rfl) rfl (of_decide_eq_true (by kernel_rfl))).trans (hv 1 (by decide) (vdone hdep 1 (by kernel_rfl))))
        exact ⟨rfl, oper_val (v := .pointer (some ⟨g, off, none⟩)) (w' := W') (by go_simp) ⟨_, rfl, rfl, Below.refl _ _⟩⟩
      · cases ho
        have h0 := (hA.got hdep 2 10 (by decide) (by kernel_rfl) rfl (of_decide_eq_true (by kernel_rfl))).trans (hv 2 (by decide) (vdone hdep 2 (by kernel_rfl)))
        exact ⟨rfl, oper_val (v := .agg (key.map bv).toArray) (w' := W') (exec_load_part 23 _ rfl g off h0 (key.map bv) _ (HKW.out.later hb).keyC Tryd.underlying23 rfl HI.out) ⟨_, rfl, rfl, Below.refl _ _⟩⟩
      · cases ho
        refine ⟨rfl, oper_call (f := 30) (args := #[.int .u64 18446744073709551615]) (by go_simp) ((cnonce_any 18446744073709551615 (by omega) W').mono ?_)⟩
        rintro e w2 ⟨rfl, hb2⟩
        exact ⟨_, rfl, _, rfl, rfl, hb2⟩
      · cases ho
        have hmk : (Instr.makeSlice 29 (.int .i64 32) (.int .i64 32)).run Tryd.prog W' = .ok (.slice (some ⟨W'.heap.size, 0, none⟩) 32 32) (W'.alloc (.cells ((List.replicate 32 (0 : UInt8)).map bv).toArray 5)) := make_zero W' 32 (by omega)
        have hb3 : Below W'.heap.size W' (W'.alloc (.cells ((List.replicate 32 (0 : UInt8)).map bv).toArray 5)) := (Below.refl _ _).alloc (Nat.le_refl _) _
        have hA3 : Arr (W'.alloc (.cells ((List.replicate 32 (0 : UInt8)).map bv).toArray 5)) W'.heap.size 5 (List.replicate 32 0) := Arr.new W' _ _
        obtain ⟨w3, hw3⟩ : ∃ w3, W'.alloc (.cells ((List.replicate 32 (0 : UInt8)).map bv).toArray 5) = w3 := ⟨_, rfl⟩
        rw [hw3] at hmk hb3 hA3
        exact ⟨rfl, oper_val (v := .slice (some ⟨W'.heap.size, 0, none⟩) 32 32) (w' := w3) (by go_simp) ⟨_, rfl, ⟨_, rfl, hA3.byt 32 rfl⟩, hb3⟩⟩
      · cases ho
        have h4 : A'.tmps[11]?.getD undef = .agg (key.map bv).toArray := slotv ((hA.got hdep 3 11 (by decide) (by kernel_rfl) rfl (of_decide_eq_true (by kernel_rfl))).trans (hv 3 (by decide) (vdone hdep 3 (by kernel_rfl))))
        have h5 : A'.tmps[12]?.getD undef = .agg ((nonceB lastN).map bv).toArray := slotv ((hA.got hdep 4 12 (by decide) (by kernel_rfl) rfl (of_decide_eq_true (by kernel_rfl))).trans (hv 4 (by decide) (vdone hdep 4 (by kernel_rfl))))
        obtain ⟨zb, h6, hBz⟩ := hv 5 (by decide) (vdone hdep 5 (by kernel_rfl))
        replace h6 := slotv ((hA.got hdep 5 13 (by decide) (by kernel_rfl) rfl (of_decide_eq_true (by kernel_rfl))).trans h6)
        refine ⟨rfl, oper_call (f := 16) (args := #[.agg (key.map bv).toArray, .agg ((nonceB lastN).map bv).toArray, .slice none 0 0, .slice (some ⟨zb, 0, none⟩) 32 32]) (by go_simp)
          ((seal_any key (nonceB lastN) none 0 0 [] (some ⟨zb, 0, none⟩) 32 32 (List.replicate 32 0) W' hkl (nonceB_length _) ⟨rfl, .inl rfl⟩ (fun _ => rfl) (by omega) (by omega) (by unfold maxLen; omega) hBz (fun e => by cases e) (by omega) (by omega) (by unfold maxLen; omega)).mono ?_)⟩
        rintro e w4 ⟨v4, rfl, hb4, own4⟩
        obtain ⟨a4, c4, rfl, hB4, hc1, hc2, _⟩ := own_parts own4
        obtain ⟨vb, vo, rfl, _⟩ := hB4.at_ 0 (by omega)
        have hvb : W'.heap.size ≤ vb ∧ vo = 0 := by
          rcases own4.2 with ⟨e, _⟩ | ⟨g', cap', cur, e, hbg, _⟩
          · cases e
          · cases e; exact ⟨hbg, rfl⟩
        obtain ⟨hvb, rfl⟩ := hvb
        have hvc : c4 ≤ 9223372036854775807 := by unfold maxLen at hc2; omega
        exact ⟨_, rfl, _, rfl, ⟨vb, c4, rfl, Nat.le_trans hW'.size hvb, hc1, hvc, hB4.cut (q := 32) (by omega)⟩, hb4⟩
    · intro v W' hv hb
      have e0 := hv 0 (by decide)
      have e1 := hv 1 (by decide)
      obtain ⟨vb, vc, e6, hvb, hc1, hc2, hB6⟩ := hv 6 (by decide)
      have hK' := HKW.out.later hb
      have hW' := HWW.out.trans (hb.mono HWW.out.size)
      have hRl := rekB_length key true hkl
      obtain ⟨R, hR⟩ : ∃ R, rekB key true = R := ⟨_, rfl⟩
      have HR := ohid hR
      rw [hR] at hB6 hRl
      obtain ⟨X, hst, hKX, hGX⟩ := hK'.setKey R hRl
      have HKX := ohid hKX
      have HG5 : Hid (w.grownBy X (some g)) := World.grownBy.trans (But.below g hW') hGX
      have HB6 := ohid hB6
      have i1 : (32 : Int) ≤ (vc : Int) := by omega
      have hat : (Instr.arrayAt 23 (.slice (some ⟨vb, 0, none⟩) 32 vc)).run Tryd.prog W' = .ok (.pointer (some ⟨vb, 0, none⟩)) W' := by simp [Instr.arrayAt, run_underlying Tryd.underlying23]
      clear hK' hB6 hKX hGX hR
      refine vtail (a' := { tmps := #[.pointer (some ⟨g, off, none⟩), undef, undef, .pointer (some ⟨g, off, none⟩), .pointer (some ⟨g, off, none⟩), .pointer (some ⟨g, off + 32, none⟩), .bool true, .bool false, v 0, v 1, v 2, v 3, v 4, v 5, v 6, undef, undef, undef, undef, undef, undef, undef], defers := [] }) rfl (by kernel_rfl) ?_
      rw [e6]
      go_wp2_with (first | refine wpList_load_byt rfl 23 _ rfl vb 0 32 32 5 R rfl HB6.out Tryd.underlying23 (by kernel_rfl) ?_ | fail)
      refine bodyPost_end (results_none rfl _ _ _) rfl ?_
      exact ⟨⟨_, rfl⟩, HG5.out, by rw [HR.out]; exact HKX.out⟩
theorem crekey_any (g : Nat) (key : List UInt8) (has : Bool) (n : Nat) (w : World) (hC : CiIs w g key has n) :
    Calls Tryd.prog 14 #[.pointer (some ⟨g, 0, none⟩)] w fun e w' => (∃ v, e = .returned v) ∧ w.grownBy w' (some g) ∧ CiIs w' g (rekB key has) has n :=
  (krekey_any g _ 0 [] [] key has n w (KC.ofCi hC)).mono fun e w' ⟨h1, h2, h3⟩ => ⟨h1, h2, KC.toCi h3⟩
end Go.Proofs.YtdancpcnjklifaaDoor
