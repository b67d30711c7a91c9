/- The program's Right (stage 12). -/
import Derived.Test.YtejbhjcopldekaaStuD
namespace Go.Proofs.Ytejbhjcopldekaa
set_option linter.unusedVariables false
set_option maxRecDepth 100000
open Go.RowKit

theorem mload_if {P : Program} {ops : Array Oper} {rest : List Oper} {o : Oper} {a : Act} {w : World} {Q : Exit → Act → World → Prop} (hw : Region.wanted o (yielded ops a.tmps) = true) (ty : TypeId) (x : Operand) (ho : o.op = .load ty x)
    (g : Nat) (hx : a.eval x = .pointer (some ⟨g, 0, none⟩)) (t : TypeId) (cs : Array Value) (fr : Nat × Nat) (d : TypeDesc) (hg : w.heap[g]? = some (.cells cs t fr))
    (hu : P.underlying ty = some d) (hd : (match d with | .struct _ | .array _ _ => true | _ => false) = true) (hi : (P.info? ty).map (·.size) = some cs.size)
    (h : wpList P ops Q rest (a.put o.dst (.agg cs)) w) : wpList P ops Q (o :: rest) a w :=
  wpList_step fun _ hK => by simp only [hw, if_true]; exact wp_load_row ty x ho g hx t cs fr d hg hu hd hi (hK _ _ h)
theorem MBox.blk {w : World} {b : Nat} {m : SM} {ua : Option Addr} {uc : Nat} (h : MBox w b m ua uc) : w.heap[b]? = some (.cells (sMsg m ua uc) 29 (0, 0)) := by
  obtain ⟨arr, e, hr⟩ := h.row
  rw [e] at hr
  exact hr
/-- A message whose texts and numbers are what a machine can hold. -/
structure MOk (w : World) (m : SM) (ua : Option Addr) (uc : Nat) : Prop where
  cls : (Lit.int .i64 m.cls).wf = true
  nums : NumsAt w ua m.unk.length m.unk
  wf : ∀ n ∈ m.unk, (Lit.int .i64 n).wf = true
  unk : m.unk.length ≤ 1000000
  soft : m.soft.length ≤ 1000000
  reason : m.reason.length ≤ 1000000
theorem MOk.later {w w' : World} {m : SM} {ua : Option Addr} {uc : Nat} (h : MOk w m ua uc) (hb : Below w.heap.size w w') : MOk w' m ua uc :=
  ⟨h.cls, h.nums.later hb, h.wf, h.unk, h.soft, h.reason⟩

set_option maxHeartbeats 1000000 in
theorem right_any (m : SM) (ua : Option Addr) (uc : Nat) (w : World) (hm : MOk w m ua uc) :
    Calls Try.prog 14 #[.agg (sMsg m ua uc)] w fun e w' => e = .returned (.bool (rightS m)) ∧ Below w.heap.size w w' := by
  have hM := MBox.new w m ua uc
  have hb0 : Below w.heap.size w (w.alloc (.cells (sMsg m ua uc) 29)) := (Below.refl _ _).alloc (Nat.le_refl _) _
  have k0 : keyOf Try.prog 3 (.int .i64 m.cls) = some (.int .i64 m.cls) := Maps.keyOf_int_mk Try.underlying3 hm.cls
  have h100 : (((S m.soft).size : Int) ≤ 100) ↔ m.soft.length ≤ 100 := by rw [Ssize]; omega
  have HS := uhid h100
  have HM := uhid hm
  have HP := uhid (rightS_parts m)
  obtain ⟨F, hF⟩ : ∃ F, rightS m = F := ⟨_, rfl⟩
  rw [hF]
  have HF := uhid hF
  obtain ⟨arr, harr⟩ : ∃ arr, sMsg m ua uc = arr := ⟨_, rfl⟩
  have hsz : arr.size = 19 := by rw [← harr]; rfl
  have I29 : (Try.prog.info? 29).map (·.size) = some arr.size := by rw [hsz]; rfl
  have HI := uhid I29
  have HA := uhid harr
  rw [harr] at hb0 ⊢
  have hM' := hM
  rw [harr] at hM
  clear hF hm h100 I29 hsz
  go_enter Try.func14, Try.ntmps14
  go_wp2_with fail
  obtain ⟨W, hW⟩ : ∃ W, (w.alloc (.cells arr 29)).drew = W := ⟨_, rfl⟩
  have hdr : Below (w.alloc (.cells arr 29)).heap.size (w.alloc (.cells arr 29)) W := by rw [← hW]; exact (Below.refl _ _).drew
  have hM0 := hM.later hdr hM.lt (Nat.le_refl _)
  have hb9 : Below w.heap.size w W := hb0.trans (hdr.mono hb0.size)
  have HMB := uhid hM0
  have HB0 := uhid hb9
  have q0 := hM0.cls
  have hlt : w.heap.size < W.heap.size := hM0.lt
  refine wp_region_sched' (G := Grows) (by kernel_rfl) Grows.refl Grows.trans (by kernel_rfl) [(1, true), (2, true), (0, false), (3, false), (4, true), (5, true), (6, true), (7, true), (8, true)] rfl (by kernel_rfl) ?_
  intro KK hKK
  rw [hW]
  clear hW hM hb0 harr hM' hM0 hb9 hdr
  refine sched_take rfl (by rfl) (v := ?_) ?_ ?_; rotate_left; (intro w' hw'; clear hw'; go_simp; with_reducible rfl); go_simp
  refine sched_take rfl (by rfl) (v := .int .i64 m.cls) (fun w' hw' => by
    have q1 := hw'.cell (p := ⟨w.heap.size, 0, none⟩) hlt
    rw [q0] at q1
    go_simp) ?_
  go_simp
  refine sched_call (f := 25) (args := #[]) rfl (by rfl) (by go_simp) ?_
  refine (types_any _).mono ?_
  rintro e w1 ⟨rfl, hb1, hown⟩
  refine ⟨_, rfl, hb1, ?_⟩
  obtain ⟨v, ps, hrun, hv⟩ := hown.look_ok keyedI Try.underlying59 (zeroI w1) (plainElem_int Try.underlying3 (by decide)) k0
  rw [tyD_has] at hrun
  clear hown hv
  obtain ⟨g, hg⟩ : ∃ g, W.heap.size = g := ⟨_, rfl⟩
  have hM1 := HMB.out.later hb1 hlt (Nat.le_refl _)
  have hb2 : Below w.heap.size w w1 := HB0.out.trans (hb1.mono HB0.out.size)
  rw [hg] at hrun
  rw [hg]
  have HM1 := uhid hM1
  have HB1 := uhid hb2
  have hlt1 := hM1.lt
  clear q0 hM1 hb2 HMB HB0 hg hb1
  go_simp
  cases his : decide (m.cls = 0 ∨ m.cls = 2 ∨ m.cls = 3) with
  | false =>
    have hv : F = false := by
      rw [← HF.out, HP.out, his]
      rfl
    subst hv
    rw [his] at hrun
    refine sched_val (v := .tuple #[v, .bool false]) (w' := w1) rfl (by rfl) (by simp [execOp, hrun, Result.andThen, Act.eval]) (Grows.refl _) ?_
    iterate 5 (go_simp; refine sched_take rfl (by rfl) (v := ?_) ?_ ?_; rotate_left; (intro w' hw'; clear hw'; go_simp; with_reducible rfl))
    go_simp
    refine sched_done hKK ?_
    clear hKK
    go_wp2_with fail
    go_ret
    exact ⟨rfl, HB1.out⟩
  | true =>
    rw [his] at hrun
    refine sched_val (v := .tuple #[v, .bool true]) (w' := w1) rfl (by rfl) (by simp [execOp, hrun, Result.andThen, Act.eval]) (Grows.refl _) ?_
    iterate 5 (go_simp; refine sched_take rfl (by rfl) (v := ?_) ?_ ?_; rotate_left; (intro w' hw'; clear hw'; go_simp; with_reducible rfl))
    go_simp
    refine sched_done hKK ?_
    clear hKK
    have hR1 := HM1.out.blk
    rw [HA.out] at hR1
    go_wp2_with (first | refine mload_if rfl 29 _ rfl w.heap.size rfl 29 _ (0, 0) _ hR1 Try.underlying29 rfl HI.out ?_)
    rw [← HA.out]
    refine (mappedRight_any m ua uc w1).mono ?_
    rintro e w2 ⟨rfl, hb3⟩
    have hM2 := HM1.out.later hb3 hlt1 (Nat.le_refl _)
    have HM2 := uhid hM2
    have HB2 : Hid (Below w.heap.size w w2) := uhid (HB1.out.trans (hb3.mono HB1.out.size))
    have hlt2 := hM2.lt
    have hR2 := hM2.blk
    rw [HA.out] at hR2
    clear hM2 hb3 hR1
    cases h1 : mapR m with
    | false =>
      have hv : F = false := by
        rw [← HF.out, HP.out, h1]
        simp
      subst hv
      go_wp2_with fail
      go_ret
      exact ⟨rfl, HB2.out⟩
    | true =>
      have q15 := HM2.out.soft
      by_cases h2 : m.soft.length ≤ 100
      · have h2' := HS.out.2 h2
        go_wp2_with (first | refine mload_if rfl 29 _ rfl w.heap.size rfl 29 _ (0, 0) _ hR2 Try.underlying29 rfl HI.out ?_)
        rw [← HA.out]
        refine (codeRight_any m ua uc HM.out.reason w2).mono ?_
        rintro e w3 ⟨rfl, hb4⟩
        have hM3 := HM2.out.later hb4 hlt2 (Nat.le_refl _)
        have HM3 := uhid hM3
        have HB3 : Hid (Below w.heap.size w w3) := uhid (HB2.out.trans (hb4.mono HB2.out.size))
        have hlt3 := hM3.lt
        have hR3 := hM3.blk
        rw [HA.out] at hR3
        clear hM3 q15 hb4 hR2
        cases h3 : codR m with
        | false =>
          have hv : F = false := by
            rw [← HF.out, HP.out, h3]
            simp
          subst hv
          go_wp2_with fail
          go_ret
          exact ⟨rfl, HB3.out⟩
        | true =>
          go_wp2_with (first | refine mload_if rfl 29 _ rfl w.heap.size rfl 29 _ (0, 0) _ hR3 Try.underlying29 rfl HI.out ?_)
          rw [← HA.out]
          refine (unknownRight_any m ua uc HM.out.unk w3 (HM.out.nums.later HB3.out) HM.out.wf).mono ?_
          rintro e w4 ⟨rfl, hb5⟩
          have HB4 : Hid (Below w.heap.size w w4) := uhid (HB3.out.trans (hb5.mono HB3.out.size))
          have hv : F = unkR m := by
            rw [← HF.out, HP.out, his, h1, h3, decide_eq_true h2]
            simp
          subst hv
          cases h4 : unkR m with
          | false =>
            go_wp2_with fail
            go_ret
            exact ⟨by rw [h4]; rfl, HB4.out⟩
          | true =>
            go_wp2_with fail
            go_ret
            exact ⟨by rw [h4]; rfl, HB4.out⟩
      · have h2' : ¬ ((S m.soft).size : Int) ≤ 100 := fun h => h2 (HS.out.1 h)
        have hv : F = false := by
          rw [← HF.out, HP.out, decide_eq_false h2]
          simp
        subst hv
        go_wp2_with fail
        go_ret
        exact ⟨rfl, HB2.out⟩
end Go.Proofs.Ytejbhjcopldekaa
