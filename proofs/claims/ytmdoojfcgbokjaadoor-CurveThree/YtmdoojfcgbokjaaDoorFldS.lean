/- The walk over the program's Swap (field). -/
import Derived.Test.YtmdoojfcgbokjaaDoorFieldT
namespace Go.Proofs.YtmdoojfcgbokjaaDoor
set_option linter.unusedVariables false
open Go.RowKit

theorem results_both {P : Program} {fn : Func} {p q : Tmp} {ty : TypeId} (h : fn.results = #[.cell p ty, .cell q ty]) (tmps : Array Value) (w : World) (g1 g2 : Nat) (t : TypeId) (A B : Array Value) (d : TypeDesc)
    (hp : tmps.getD p undef = .pointer (some ⟨g1, 0, none⟩)) (hq : tmps.getD q undef = .pointer (some ⟨g2, 0, none⟩))
    (h1 : w.heap[g1]? = some (.cells A t (0, 0))) (h2 : w.heap[g2]? = some (.cells B t (0, 0)))
    (hu : P.underlying ty = some d) (hd : (match d with | .struct _ | .array _ _ => true | _ => false) = true) (hA : (P.info? ty).map (·.size) = some A.size) (hB : (P.info? ty).map (·.size) = some B.size) :
    (results fn tmps).run P w = .ok (.tuple #[.agg A, .agg B]) w := by
  have hp' : tmps[p]?.getD undef = .pointer (some ⟨g1, 0, none⟩) := by simpa using hp
  have hq' : tmps[q]?.getD undef = .pointer (some ⟨g2, 0, none⟩) := by simpa using hq
  simp [results, h, hp', hq', asAddr, run_loadVar_row w g1 t ty A (0, 0) d h1 hu hd hA, run_loadVar_row w g2 t ty B (0, 0) d h2 hu hd hB]
/-- Both elements, and the places of the answers. -/
structure Sp (w : World) (A B : List Value) (W : World) : Prop where
  x : Cel W w.heap.size A
  y : Cel W (w.heap.size + 1) B
  r1 : Cel W (w.heap.size + 1 + 1) zeroE
  r2 : Cel W (w.heap.size + 1 + 1 + 1) zeroE
  bel : Below w.heap.size w W
theorem Sp.new (w : World) (A B : List Value) : Sp w A B ((((w.alloc (.cells A.toArray 41)).alloc (.cells B.toArray 41)).alloc (.cells zeroE.toArray 41)).alloc (.cells zeroE.toArray 41)) := by
  have h1 := Cel.new w A
  have h2 := Cel.new (w.alloc (.cells A.toArray 41)) B
  have h3 := Cel.new ((w.alloc (.cells A.toArray 41)).alloc (.cells B.toArray 41)) zeroE
  have h4 := Cel.new (((w.alloc (.cells A.toArray 41)).alloc (.cells B.toArray 41)).alloc (.cells zeroE.toArray 41)) zeroE
  rw [World.size_alloc] at h2
  rw [World.size_alloc, World.size_alloc] at h3
  rw [World.size_alloc, World.size_alloc, World.size_alloc] at h4
  exact ⟨((h1.later ((Below.refl _ _).alloc (Nat.le_refl _) _)).later ((Below.refl _ _).alloc (Nat.le_refl _) _)).later ((Below.refl _ _).alloc (Nat.le_refl _) _),
    (h2.later ((Below.refl _ _).alloc (Nat.le_refl _) _)).later ((Below.refl _ _).alloc (Nat.le_refl _) _), h3.later ((Below.refl _ _).alloc (Nat.le_refl _) _), h4,
    ((((Below.refl _ _).alloc (Nat.le_refl _) _).alloc (by simp) _).alloc (by simp; omega) _).alloc (by simp; omega) _⟩

set_option maxHeartbeats 1000000 in
set_option maxRecDepth 100000 in
theorem fswap_any (is : Bool) (A B : List Value) (x y : Nat) (w : World) (hA : Elm A x) (hB : Elm B y) :
    Calls Tryd.prog 33 #[.bool is, .agg A.toArray, .agg B.toArray] w fun e w' => ∃ C D, e = .returned (.tuple #[.agg C.toArray, .agg D.toArray]) ∧ Elm C (if is then y else x) ∧ Elm D (if is then x else y) ∧ Below w.heap.size w w' := by
  have HA : Hid (Elm A x) := hA
  have HB : Hid (Elm B y) := hB
  have hAl := hA.len
  have hBl := hB.len
  have HS0 : Hid (Sp w A B ((((w.alloc (.cells A.toArray 41)).alloc (.cells B.toArray 41)).alloc (.cells zeroE.toArray 41)).alloc (.cells zeroE.toArray 41))) := Sp.new w A B
  clear hA hB
  cases is with
  | true =>
    go_enter Tryd.func33, Tryd.ntmps33
    go_wp2
    refine from_world (P := Code.wp Tryd.prog _ _ _) (R := fun W => Hid (Sp w A B W)) _ HS0 ?_
    clear HS0
    intro W0 HS
    obtain ⟨W, hWd⟩ : ∃ W, W0.drew = W := ⟨_, rfl⟩
    have HWd : Hid (W0.drew = W) := hWd
    have hdr : Below W0.heap.size W0 W := by rw [← hWd]; exact (Below.refl _ _).drew
    have hS : Sp w A B W := ⟨HS.out.x.later hdr, HS.out.y.later hdr, HS.out.r1.later hdr, HS.out.r2.later hdr, HS.out.bel.trans (hdr.mono HS.out.bel.size)⟩
    have hst1 := store_row W (w.heap.size + 1 + 1) _ _ B hS.r1 (by simp [hBl, zeroE_len]) HB.out.one
    have c1 : Cel (W.setRow (w.heap.size + 1 + 1) B.toArray) (w.heap.size + 1 + 1) B := setRow_heap W _ _ _ _ _ hS.r1
    have c2 := hS.r2.put_other (g' := w.heap.size + 1 + 1) (by omega) B.toArray
    have b1 : Below (w.heap.size + 1 + 1) W (W.setRow (w.heap.size + 1 + 1) B.toArray) := below_setRow (Below.refl _ _) (Nat.le_refl _) _
    obtain ⟨X1, hX1⟩ : ∃ X1, W.setRow (w.heap.size + 1 + 1) B.toArray = X1 := ⟨_, rfl⟩
    rw [hX1] at hst1 c1 c2 b1
    have hst2 := store_row X1 (w.heap.size + 1 + 1 + 1) _ _ A c2 (by simp [hAl, zeroE_len]) HA.out.one
    have d2 : Cel (X1.setRow (w.heap.size + 1 + 1 + 1) A.toArray) (w.heap.size + 1 + 1 + 1) A := setRow_heap X1 _ _ _ _ _ c2
    have d1 := c1.put_other (g' := w.heap.size + 1 + 1 + 1) (by omega) A.toArray
    have b2 : Below (w.heap.size + 1 + 1) X1 (X1.setRow (w.heap.size + 1 + 1 + 1) A.toArray) := below_setRow (Below.refl _ _) (by omega) _
    obtain ⟨X2, hX2⟩ : ∃ X2, X1.setRow (w.heap.size + 1 + 1 + 1) A.toArray = X2 := ⟨_, rfl⟩
    rw [hX2] at hst2 d1 d2 b2
    have HBel : Hid (Below w.heap.size w X2) := (hS.bel.trans (b1.mono (by omega))).trans (b2.mono (by omega))
    have HS1 := hidup hS
    have D1 := hidup d1
    have D2 := hidup d2
    clear hWd hdr hS HS c1 c2 d1 d2 hX1 hX2
    refine wp_region_sched' (G := Below (w.heap.size + 1 + 1)) (by kernel_rfl) (fun _ => Below.refl _ _) (fun _ _ _ h k => Below.trans h k) (by kernel_rfl) [(0, true), (1, true), (2, false), (3, false)] rfl (by kernel_rfl) ?_
    intro KK hKK
    rw [HWd.out]
    clear HWd
    refine sched_take rfl (by rfl) (v := .agg B.toArray) (fun w' hw' => exec_load_row 41 _ rfl (w.heap.size + 1) rfl 41 _ (0, 0) _ (HS1.out.y.below hw' (by omega)) Tryd.underlying41 rfl (elm_info HB.out)) ?_
    go_simp
    refine sched_take rfl (by rfl) (v := .agg A.toArray) (fun w' hw' => exec_load_row 41 _ rfl w.heap.size rfl 41 _ (0, 0) _ (HS1.out.x.below hw' (by omega)) Tryd.underlying41 rfl (elm_info HA.out)) ?_
    go_simp
    refine sched_put rfl (by rfl) (w' := X1) (by go_simp) b1 ?_
    go_simp
    refine sched_put rfl (by rfl) (w' := X2) (by go_simp) b2 ?_
    clear hst1 hst2 b1 b2
    go_simp
    refine sched_done hKK ?_
    clear hKK
    (try go_wp2)
    (try simp only [Exit.inBlock, Exit.then])
    refine bodyPost_ret (results_both rfl _ _ (w.heap.size + 1 + 1) (w.heap.size + 1 + 1 + 1) 41 _ _ _ rfl rfl D1.out D2.out Tryd.underlying41 rfl (elm_info HB.out) (elm_info HA.out)) rfl ?_
    exact ⟨B, A, rfl, HB.out, HA.out, HBel.out⟩
  | false =>
    go_enter Tryd.func33, Tryd.ntmps33
    go_wp2
    refine from_world (P := Code.wp Tryd.prog _ _ _) (R := fun W => Hid (Sp w A B W)) _ HS0 ?_
    clear HS0
    intro W0 HS
    obtain ⟨W, hWd⟩ : ∃ W, W0.drew = W := ⟨_, rfl⟩
    have HWd : Hid (W0.drew = W) := hWd
    have hdr : Below W0.heap.size W0 W := by rw [← hWd]; exact (Below.refl _ _).drew
    have hS : Sp w A B W := ⟨HS.out.x.later hdr, HS.out.y.later hdr, HS.out.r1.later hdr, HS.out.r2.later hdr, HS.out.bel.trans (hdr.mono HS.out.bel.size)⟩
    have hst1 := store_row W (w.heap.size + 1 + 1) _ _ A hS.r1 (by simp [hAl, zeroE_len]) HA.out.one
    have c1 : Cel (W.setRow (w.heap.size + 1 + 1) A.toArray) (w.heap.size + 1 + 1) A := setRow_heap W _ _ _ _ _ hS.r1
    have c2 := hS.r2.put_other (g' := w.heap.size + 1 + 1) (by omega) A.toArray
    have b1 : Below (w.heap.size + 1 + 1) W (W.setRow (w.heap.size + 1 + 1) A.toArray) := below_setRow (Below.refl _ _) (Nat.le_refl _) _
    obtain ⟨X1, hX1⟩ : ∃ X1, W.setRow (w.heap.size + 1 + 1) A.toArray = X1 := ⟨_, rfl⟩
    rw [hX1] at hst1 c1 c2 b1
    have hst2 := store_row X1 (w.heap.size + 1 + 1 + 1) _ _ B c2 (by simp [hBl, zeroE_len]) HB.out.one
    have d2 : Cel (X1.setRow (w.heap.size + 1 + 1 + 1) B.toArray) (w.heap.size + 1 + 1 + 1) B := setRow_heap X1 _ _ _ _ _ c2
    have d1 := c1.put_other (g' := w.heap.size + 1 + 1 + 1) (by omega) B.toArray
    have b2 : Below (w.heap.size + 1 + 1) X1 (X1.setRow (w.heap.size + 1 + 1 + 1) B.toArray) := below_setRow (Below.refl _ _) (by omega) _
    obtain ⟨X2, hX2⟩ : ∃ X2, X1.setRow (w.heap.size + 1 + 1 + 1) B.toArray = X2 := ⟨_, rfl⟩
    rw [hX2] at hst2 d1 d2 b2
    have HBel : Hid (Below w.heap.size w X2) := (hS.bel.trans (b1.mono (by omega))).trans (b2.mono (by omega))
    have HS1 := hidup hS
    have D1 := hidup d1
    have D2 := hidup d2
    clear hWd hdr hS HS c1 c2 d1 d2 hX1 hX2
    refine wp_region_sched' (G := Below (w.heap.size + 1 + 1)) (by kernel_rfl) (fun _ => Below.refl _ _) (fun _ _ _ h k => Below.trans h k) (by kernel_rfl) [(0, true), (1, true), (2, false), (3, false)] rfl (by kernel_rfl) ?_
    intro KK hKK
    rw [HWd.out]
    clear HWd
    refine sched_take rfl (by rfl) (v := .agg A.toArray) (fun w' hw' => exec_load_row 41 _ rfl w.heap.size rfl 41 _ (0, 0) _ (HS1.out.x.below hw' (by omega)) Tryd.underlying41 rfl (elm_info HA.out)) ?_
    go_simp
    refine sched_take rfl (by rfl) (v := .agg B.toArray) (fun w' hw' => exec_load_row 41 _ rfl (w.heap.size + 1) rfl 41 _ (0, 0) _ (HS1.out.y.below hw' (by omega)) Tryd.underlying41 rfl (elm_info HB.out)) ?_
    go_simp
    refine sched_put rfl (by rfl) (w' := X1) (by go_simp) b1 ?_
    go_simp
    refine sched_put rfl (by rfl) (w' := X2) (by go_simp) b2 ?_
    clear hst1 hst2 b1 b2
    go_simp
    refine sched_done hKK ?_
    clear hKK
    (try go_wp2)
    (try simp only [Exit.inBlock, Exit.then])
    refine bodyPost_ret (results_both rfl _ _ (w.heap.size + 1 + 1) (w.heap.size + 1 + 1 + 1) 41 _ _ _ rfl rfl D1.out D2.out Tryd.underlying41 rfl (elm_info HA.out) (elm_info HB.out)) rfl ?_
    exact ⟨A, B, rfl, HA.out, HB.out, HBel.out⟩
end Go.Proofs.YtmdoojfcgbokjaaDoor
