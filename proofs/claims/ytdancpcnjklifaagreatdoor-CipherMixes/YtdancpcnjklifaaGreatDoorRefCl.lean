/- The walk over the document's Split (stage 9). -/
import Derived.Test.YtdancpcnjklifaaGreatDoorRefCk
import Derived.Test.YtdancpcnjklifaaGreatDoorPartW
namespace Go.Proofs.YtdancpcnjklifaaGreatDoor
set_option linter.unusedVariables false
set_option maxRecDepth 100000
open Go.RowKit

theorem exec_intoC {ev : Operand → Value} {o : Oper} {w : World} {x y : Operand} {g : Nat} {c c0 : List Value} (ho : o.op = .store 43 x y) (hx : ev x = .pointer (some ⟨g, 0, none⟩)) (hy : ev y = .agg c.toArray) (hl : c.length = 3) (h1 : ∀ v ∈ c, v.oneCell' = true) (hc : w.heap[g]? = some (.cells c0.toArray 43 (0, 0))) (hl0 : c0.length = 3) :
    (execOp ev o).run Tryz.prog w = .ok .skip (w.setRow g c.toArray) := by
  have hst := store_row w g _ _ c hc (by simp [hl, hl0]) h1
  have hu := Tryz.underlying43
  unfold execOp
  simp only [ho, hx, hy]
  go_simp
theorem results_bothC {P : Program} {fn : Func} {p q : Tmp} {ty : TypeId} (h : fn.results = #[.cell p ty, .cell q ty]) (tmps : Array Value) (w : World) (g1 g2 : Nat) (t : TypeId) (A B : Array Value) (d : TypeDesc)
    (hp : tmps.getD p undef = .pointer (some ⟨g1, 0, none⟩)) (hq : tmps.getD q undef = .pointer (some ⟨g2, 0, none⟩))
    (h1 : w.heap[g1]? = some (.cells A t (0, 0))) (h2 : w.heap[g2]? = some (.cells B t (0, 0)))
    (hu : P.underlying ty = some d) (hd : (match d with | .struct _ | .array _ _ => true | _ => false) = true) (hA : (P.info? ty).map (·.size) = some A.size) (hB : (P.info? ty).map (·.size) = some B.size) :
    (results fn tmps).run P w = .ok (.tuple #[.agg A, .agg B]) w := by
  have hp' : tmps[p]?.getD undef = .pointer (some ⟨g1, 0, none⟩) := by simpa using hp
  have hq' : tmps[q]?.getD undef = .pointer (some ⟨g2, 0, none⟩) := by simpa using hq
  simp [results, h, hp', hq', asAddr, run_loadVar_row w g1 t ty A (0, 0) d h1 hu hd hA, run_loadVar_row w g2 t ty B (0, 0) d h2 hu hd hB]
def rcV (kb ko kc : Nat) : List Value := [.slice (some ⟨kb, ko, none⟩) 32 kc, .bool true, .int .u64 0]
set_option maxHeartbeats 4000000 in
theorem refMSplit_any (g cb co cc hb ho hc kb ko kc : Nat) (chain hash key : List UInt8) (has : Bool) (n : Nat) (w : World) (hM : RM w g cb co cc hb ho hc kb ko kc chain hash key has n) :
    Calls Tryz.prog 16 #[.pointer (some ⟨g, 0, none⟩)] w fun e w' => ∃ vb vc, e = .returned (.tuple #[.agg (rcV vb 0 vc).toArray, .agg (rcV vb 32 (vc - 32)).toArray]) ∧ Below w.heap.size w w' ∧ Byt w' (some ⟨vb, 0, none⟩) 32 (der1 chain []) ∧ Byt w' (some ⟨vb, 32, none⟩) 32 (der2 chain []) := by
  have hgl := hM.lt
  obtain ⟨W0, hW0⟩ : ∃ W, (w.alloc (.cells #[.slice none 0 0, .bool false, .int .u64 0] 43)).alloc (.cells #[.slice none 0 0, .bool false, .int .u64 0] 43) = W := ⟨_, rfl⟩
  have hb0 : Below w.heap.size w W0 := by rw [← hW0]; exact ((Below.refl _ _).alloc (Nat.le_refl _) _).alloc (by simp) _
  have z1 : W0.heap[w.heap.size]? = some (.cells #[.slice none 0 0, .bool false, .int .u64 0] 43 (0, 0)) := by
    rw [← hW0, Below.heap_alloc _ _ _ (by simp), heap_alloc_new]
  have z2 : W0.heap[w.heap.size + 1]? = some (.cells #[.slice none 0 0, .bool false, .int .u64 0] 43 (0, 0)) := by
    have := heap_alloc_new (w.alloc (.cells #[.slice none 0 0, .bool false, .int .u64 0] 43)) (.cells #[.slice none 0 0, .bool false, .int .u64 0] 43)
    rw [World.size_alloc] at this
    rw [← hW0]
    exact this
  have hM0 := hM.later hb0
  have HM0 := ci_hid hM0
  have HB0 := ci_hid hb0
  have HZ1 := ci_hid z1
  have HZ2 := ci_hid z2
  have HW0 := ci_hid hW0
  obtain ⟨q1, q2, q3, q4, q5, q6⟩ := hM0.cells
  rw [← hW0] at q1
  clear hM hM0 hb0 z1 z2 hW0 q2 q3 q4 q5 q6
  go_enter Tryz.func16, Tryz.ntmps16
  go_wp2_with fail
  rw [HW0.out]
  clear q1
  refine (refDerive_any (some ⟨cb, co, none⟩) 32 cc chain none 0 0 [] W0 HM0.out.cB (fun e => by cases e) (by omega) HM0.out.cl ⟨rfl, .inl rfl⟩ (fun _ => rfl) (by omega) (by omega)).mono ?_
  rintro e w1 ⟨v1, rfl, hb1, own1⟩
  obtain ⟨vb, vc, rfl, hvb, _⟩ := own_slice own1 (by omega)
  obtain ⟨_, _, e1, hB1, hc1, hm1, _⟩ := own_parts own1
  cases e1
  obtain ⟨d1, hd1⟩ : ∃ d, der1 chain [] = d := ⟨_, rfl⟩
  obtain ⟨d2, hd2⟩ : ∃ d, der2 chain [] = d := ⟨_, rfl⟩
  obtain ⟨d3, hd3⟩ : ∃ d, der3 chain [] = d := ⟨_, rfl⟩
  have l1 : d1.length = 32 := by rw [← hd1]; exact der1_length _ _
  have l2 : d2.length = 32 := by rw [← hd2]; exact der2_length _ _
  rw [hd1, hd2, hd3] at hB1
  have HD1 := ci_hid hd1
  have HD2 := ci_hid hd2
  have hA := hB1.cut (q := 32) (by omega)
  rw [List.append_assoc, List.take_left' l1] at hA
  have hK := hB1.sub (n := 32) (q := 64) (by omega) (by omega)
  rw [List.append_assoc, List.drop_left' l1, List.take_left' l2] at hK
  have hK' : Byt w1 (some ⟨vb, 32, none⟩) 32 d2 := by simpa using hK
  have hvcm : vc ≤ 9223372036854775807 := by unfold maxLen at hm1; omega
  have hi1 : (32 : Int) ≤ (vc : Int) := by omega
  have hi2 : (64 : Int) ≤ (vc : Int) := by omega
  have hi3 : ¬ vc = 32 := by omega
  have hs0 : w.heap.size + 2 ≤ W0.heap.size := by rw [← HW0.out]; simp
  go_wp2
  obtain ⟨W, hW⟩ : ∃ W, w1.drew = W := ⟨_, rfl⟩
  have hgr : Below w1.heap.size w1 W := by rw [← hW]; exact (Below.refl _ _).drew
  have hb2 : Below W0.heap.size W0 W := hb1.trans (hgr.mono hb1.size)
  have y1 := row_later HZ1.out hb2
  have y2 := row_later HZ2.out hb2
  have r1 := setRow_heap W w.heap.size _ (rcV vb 0 vc).toArray _ _ y1
  have r2 : (W.setRow w.heap.size (rcV vb 0 vc).toArray).heap[w.heap.size + 1]? = _ := (setRow_other W w.heap.size (w.heap.size + 1) _ (by omega)).trans y2
  have hbW := HB0.out.trans (hb2.mono HB0.out.size)
  have hb3 := below_setRow hbW (Nat.le_refl _) (rcV vb 0 vc).toArray
  have a3 := (hA.later hgr).but (But.setRow W w.heap.size (rcV vb 0 vc).toArray) (show vb ≠ w.heap.size by omega)
  have k3 := (hK'.later hgr).but (But.setRow W w.heap.size (rcV vb 0 vc).toArray) (show vb ≠ w.heap.size by omega)
  obtain ⟨X1, hX1⟩ : ∃ X, W.setRow w.heap.size (rcV vb 0 vc).toArray = X := ⟨_, rfl⟩
  have ho1 : ∀ (v : Value), v ∈ rcV vb 0 vc → v.oneCell' = true := by intro v hv; simp only [rcV, List.mem_cons, List.not_mem_nil, or_false] at hv; rcases hv with rfl | rfl | rfl <;> rfl
  have ho2 : ∀ (v : Value), v ∈ rcV vb 32 (vc - 32) → v.oneCell' = true := by intro v hv; simp only [rcV, List.mem_cons, List.not_mem_nil, or_false] at hv; rcases hv with rfl | rfl | rfl <;> rfl
  rw [hX1] at r1 r2 hb3 a3 k3
  have s1 := setRow_heap X1 (w.heap.size + 1) _ (rcV vb 32 (vc - 32)).toArray _ _ r2
  have s2 : (X1.setRow (w.heap.size + 1) (rcV vb 32 (vc - 32)).toArray).heap[w.heap.size]? = _ := (setRow_other X1 (w.heap.size + 1) w.heap.size _ (by omega)).trans r1
  have hb4 := below_setRow hb3 (show w.heap.size ≤ w.heap.size + 1 by omega) (rcV vb 32 (vc - 32)).toArray
  have a4 := a3.but (But.setRow X1 (w.heap.size + 1) (rcV vb 32 (vc - 32)).toArray) (show vb ≠ w.heap.size + 1 by omega)
  have k4 := k3.but (But.setRow X1 (w.heap.size + 1) (rcV vb 32 (vc - 32)).toArray) (show vb ≠ w.heap.size + 1 by omega)
  obtain ⟨X2, hX2⟩ : ∃ X, X1.setRow (w.heap.size + 1) (rcV vb 32 (vc - 32)).toArray = X := ⟨_, rfl⟩
  rw [hX2] at s1 s2 hb4 a4 k4
  have HX1 := ci_hid hX1
  have HX2 := ci_hid hX2
  have HY1 := ci_hid y1
  have HR2 := ci_hid r2
  have HS1 := ci_hid s1
  have HS2 := ci_hid s2
  have HB4 := ci_hid hb4
  have HA4 := ci_hid a4
  have HK4 := ci_hid k4
  have HO1 := ci_hid ho1
  have HO2 := ci_hid ho2
  have HWe := ci_hid hW
  clear hW hgr hb1 hb2 y1 y2 r1 r2 hbW hb3 a3 k3 hX1 hX2 s1 s2 hb4 a4 k4 ho1 ho2 hd1 hd2 hd3 own1 hB1 hA hK hK'
  refine wp_region_sched' (G := fun _ _ => True) (by kernel_rfl) (fun _ => trivial) (fun _ _ _ _ _ => trivial) (by kernel_rfl) [(0, true), (1, true), (2, true), (3, true), (4, true), (5, true), (6, false), (7, false)] rfl (by kernel_rfl) ?_
  intro KK hKK
  rw [HWe.out]
  iterate 6 (refine sched_take rfl (by rfl) (v := ?_) ?_ ?_; rotate_left; (intro w' hw'; clear hw'; go_simp; with_reducible rfl); go_simp)
  refine sched_put rfl (by rfl) (w' := X1) (by rw [← HX1.out]; exact exec_intoC (c := rcV vb 0 vc) (c0 := [.slice none 0 0, .bool false, .int .u64 0]) rfl rfl rfl rfl HO1.out HY1.out rfl) trivial ?_
  go_simp
  refine sched_put rfl (by rfl) (w' := X2) (by rw [← HX2.out]; exact exec_intoC (c := rcV vb 32 (vc - 32)) (c0 := [.slice none 0 0, .bool false, .int .u64 0]) rfl rfl rfl rfl HO2.out HR2.out rfl) trivial ?_
  go_simp
  refine sched_done hKK ?_
  clear hKK
  (try go_wp2)
  (try simp only [Exit.inBlock, Exit.then])
  refine bodyPost_ret (results_bothC rfl _ _ w.heap.size (w.heap.size + 1) 43 _ _ _ rfl rfl HS2.out HS1.out Tryz.underlying43 rfl (by kernel_rfl) (by kernel_rfl)) rfl ?_
  rw [HD1.out, HD2.out]
  first | exact ⟨vb, vc, rfl, HB4.out, HA4.out, HK4.out⟩ | exact ⟨vb, ⟨vc, rfl⟩, HB4.out, HA4.out, HK4.out⟩
end Go.Proofs.YtdancpcnjklifaaGreatDoor
