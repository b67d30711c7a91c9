/- Several texts laid together. -/
import Derived.Test.YtmdoojfcgbokjaaDoorRefCa
import Derived.Test.YtmdoojfcgbokjaaDoorMathMult
import Derived.Test.YtmdoojfcgbokjaaDoorArrB
/- The walk over the document's Mult (curve). -/
namespace Go.Proofs.YtmdoojfcgbokjaaDoor
set_option linter.unusedVariables false
open Go.RowKit

theorem and1b (r : Nat) (h : r < 256) : bits .and .u8 (r : Int) 1 = ((r % 2 : Nat) : Int) := by
  have h1 : ∀ r : Fin 256, bits .and .u8 (r.val : Int) 1 = ((r.val % 2 : Nat) : Int) := by decide +kernel
  exact h1 ⟨r, h⟩
/-- While the ladder goes down: both points, the number that is multiplied, the key, and where it is. -/
structure Ml (w : World) (g6 g7 : Nat) (ua : Option Addr) (un uq U : Nat) (ka : Option Addr) (k : List UInt8) (a1 : Option Addr) (n1 q1 x2 : Nat) (a2 : Option Addr) (n2 q2 z2 : Nat) (a3 : Option Addr) (n3 q3 x3 : Nat) (a4 : Option Addr) (n4 q4 z3 : Nat) (n : Nat) (W : World) : Prop where
  p6 : Pnt W g6 (.slice a1 n1 q1) (.slice a2 n2 q2)
  p7 : Pnt W g7 (.slice a3 n3 q3) (.slice a4 n4 q4)
  d1 : Dig W a1 n1 q1 x2
  d2 : Dig W a2 n2 q2 z2
  d3 : Dig W a3 n3 q3 x3
  d4 : Dig W a4 n4 q4 z3
  du : Dig W ua un uq U
  kb : Byt W ka 32 k
  kl : ∀ b o f, ka = some ⟨b, o, f⟩ → b < w.heap.size
  l1 : x2 < P255
  l2 : z2 < P255
  l3 : x3 < P255
  l4 : z3 < P255
  lu : U < P255
  lad : Lad (phi U) n (pt x2 z2) (pt x3 z3)
  ne : g6 ≠ g7
  le6 : w.heap.size ≤ g6
  le7 : w.heap.size ≤ g7
  bel : Below w.heap.size w W
theorem bytPut {w W : World} {ka : Option Addr} {k : List UInt8} {g : Nat} (h : Byt W ka 32 k) (hl : ∀ b o f, ka = some ⟨b, o, f⟩ → b < w.heap.size) (hg : w.heap.size ≤ g) (cs : Array Value) : Byt (W.setRow g cs) ka 32 k := by
  rcases h.2 with h0 | ⟨b, off, e, hc⟩
  · exact absurd h0 (by decide)
  · have := hl b off none e
    rw [e] at h ⊢
    exact h.but (But.setRow W g _) (by omega)
theorem pntKind (v1 v2 : Value) (a b : Option Addr) (n c m d : Nat) (h1 : v1 = .slice a n c) (h2 : v2 = .slice b m d) : ∀ v ∈ [v1, v2], ∀ d, v ≠ .int .i64 d := by
  intro v hv d' e
  simp only [List.mem_cons, List.not_mem_nil, or_false] at hv
  rcases hv with rfl | rfl
  · rw [h1] at e; cases e
  · rw [h2] at e; cases e
/-- Both points are stored anew. -/
theorem Ml.put {w : World} {g6 g7 : Nat} {ua : Option Addr} {un uq U : Nat} {ka : Option Addr} {k : List UInt8} {a1 : Option Addr} {n1 q1 x2 : Nat} {a2 : Option Addr} {n2 q2 z2 : Nat} {a3 : Option Addr} {n3 q3 x3 : Nat} {a4 : Option Addr} {n4 q4 z3 : Nat} {n : Nat} {W V : World} (t : Ml w g6 g7 ua un uq U ka k a1 n1 q1 x2 a2 n2 q2 z2 a3 n3 q3 x3 a4 n4 q4 z3 n W) (hb : Below W.heap.size W V) {m : Nat} {b1 : Option Addr} {m1 r1 y2 : Nat} {b2 : Option Addr} {m2 r2 v2 : Nat} {b3 : Option Addr} {m3 r3 y3 : Nat} {b4 : Option Addr} {m4 r4 v3 : Nat}
    (e1 : Dig V b1 m1 r1 y2) (e2 : Dig V b2 m2 r2 v2) (e3 : Dig V b3 m3 r3 y3) (e4 : Dig V b4 m4 r4 v3) (h1 : y2 < P255) (h2 : v2 < P255) (h3 : y3 < P255) (h4 : v3 < P255) (hl : Lad (phi U) m (pt y2 v2) (pt y3 v3)) :
    Ml w g6 g7 ua un uq U ka k b1 m1 r1 y2 b2 m2 r2 v2 b3 m3 r3 y3 b4 m4 r4 v3 m ((V.setRow g6 #[.slice b1 m1 r1, .slice b2 m2 r2]).setRow g7 #[.slice b3 m3 r3, .slice b4 m4 r4]) ∧
    Ml w g6 g7 ua un uq U ka k b1 m1 r1 y2 b2 m2 r2 v2 b3 m3 r3 y3 b4 m4 r4 v3 m ((V.setRow g7 #[.slice b3 m3 r3, .slice b4 m4 r4]).setRow g6 #[.slice b1 m1 r1, .slice b2 m2 r2]) := by
  have hV6 := t.p6.later hb
  have hV7 := t.p7.later hb
  have hne := t.ne
  have k6 := pntKind _ _ a1 a2 n1 q1 n2 q2 rfl rfl
  have k7 := pntKind _ _ a3 a4 n3 q3 n4 q4 rfl rfl
  have dg : ∀ {a : Option Addr} {n c x : Nat}, Dig V a n c x → Dig ((V.setRow g6 #[.slice b1 m1 r1, .slice b2 m2 r2]).setRow g7 #[.slice b3 m3 r3, .slice b4 m4 r4]) a n c x ∧ Dig ((V.setRow g7 #[.slice b3 m3 r3, .slice b4 m4 r4]).setRow g6 #[.slice b1 m1 r1, .slice b2 m2 r2]) a n c x := fun h =>
    ⟨digPut (digPut h hV6 k6 _) (by rw [setRow_other _ _ _ _ (fun e => hne e.symm)]; exact hV7) k7 _, digPut (digPut h hV7 k7 _) (by rw [setRow_other _ _ _ _ hne]; exact hV6) k6 _⟩
  have hbel := t.bel.trans (hb.mono t.bel.size)
  have hk := t.kb.later hb
  refine ⟨⟨?_, ?_, (dg e1).1, (dg e2).1, (dg e3).1, (dg e4).1, (dg (t.du.later hb)).1, bytPut (bytPut hk t.kl t.le6 _) t.kl t.le7 _, t.kl, h1, h2, h3, h4, t.lu, hl, hne, t.le6, t.le7, below_setRow (below_setRow hbel t.le6 _) t.le7 _⟩,
    ⟨?_, ?_, (dg e1).2, (dg e2).2, (dg e3).2, (dg e4).2, (dg (t.du.later hb)).2, bytPut (bytPut hk t.kl t.le7 _) t.kl t.le6 _, t.kl, h1, h2, h3, h4, t.lu, hl, hne, t.le6, t.le7, below_setRow (below_setRow hbel t.le7 _) t.le6 _⟩⟩
  · unfold Pnt
    rw [setRow_other _ _ _ _ hne]
    exact setRow_heap V g6 _ _ _ _ hV6
  · exact setRow_heap _ g7 _ _ _ _ (show (V.setRow g6 _).heap[g7]? = _ by rw [setRow_other _ _ _ _ (fun e => hne e.symm)]; exact hV7)
  · exact setRow_heap _ g6 _ _ _ _ (show (V.setRow g7 _).heap[g6]? = _ by rw [setRow_other _ _ _ _ hne]; exact hV6)
  · unfold Pnt
    rw [setRow_other _ _ _ _ (fun e => hne e.symm)]
    exact setRow_heap V g7 _ _ _ _ hV7
theorem Ml.later {w : World} {g6 g7 : Nat} {ua : Option Addr} {un uq U : Nat} {ka : Option Addr} {k : List UInt8} {a1 : Option Addr} {n1 q1 x2 : Nat} {a2 : Option Addr} {n2 q2 z2 : Nat} {a3 : Option Addr} {n3 q3 x3 : Nat} {a4 : Option Addr} {n4 q4 z3 : Nat} {n : Nat} {W W' : World} (t : Ml w g6 g7 ua un uq U ka k a1 n1 q1 x2 a2 n2 q2 z2 a3 n3 q3 x3 a4 n4 q4 z3 n W) (hb : Below W.heap.size W W') : Ml w g6 g7 ua un uq U ka k a1 n1 q1 x2 a2 n2 q2 z2 a3 n3 q3 x3 a4 n4 q4 z3 n W' :=
  ⟨t.p6.later hb, t.p7.later hb, t.d1.later hb, t.d2.later hb, t.d3.later hb, t.d4.later hb, t.du.later hb, t.kb.later hb, t.kl, t.l1, t.l2, t.l3, t.l4, t.lu, t.lad, t.ne, t.le6, t.le7, t.bel.trans (hb.mono t.bel.size)⟩

theorem dig_1 : dig 1 = [1] := dig_one
set_option maxHeartbeats 4000000 in
set_option maxRecDepth 100000 in
theorem refMult_any (ka : Option Addr) (kc : Nat) (k : List UInt8) (ub : Option Addr) (uc : Nat) (ul : List UInt8) (w : World) (hK : Byt w ka 32 k) (hU : Byt w ub 32 ul) :
    Calls Tryd.prog 14 #[.slice ka 32 kc, .slice ub 32 uc] w fun e w' => ∃ g m, e = .returned (.slice (some ⟨g, 0, none⟩) 32 32) ∧ w.heap.size ≤ g ∧ Below w.heap.size w w' ∧ m < P255 ∧ Byt w' (some ⟨g, 0, none⟩) 32 (leB 32 m) ∧ MultX (clampK (leN k)) (phi (leN ul % 2 ^ 255 % P255)) (phi m) := by
  have HKl : Hid (∀ b o f, ka = some ⟨b, o, f⟩ → b < w.heap.size) := fun b o f ea => by
    rcases hK.2 with h | ⟨b', off, e, hc⟩
    · exact absurd h (by decide)
    · rw [e] at ea
      cases ea
      exact World.block_lt_of_cell? w _ (hc 0 (by decide))
  have hkl := hK.1
  have HK : Hid (Byt w ka 32 k) := hK
  have HUb : Hid (Byt w ub 32 ul) := hU
  obtain ⟨U, hUe⟩ : ∃ U, leN ul % 2 ^ 255 % P255 = U := ⟨_, rfl⟩
  have hUl : U < P255 := by rw [← hUe]; exact Nat.mod_lt _ P255_pos
  rw [hUe]
  have HUe : Hid (leN ul % 2 ^ 255 % P255 = U) := hUe
  obtain ⟨K, hKe⟩ : ∃ K, clampK (leN k) = K := ⟨_, rfl⟩
  rw [hKe]
  have HKe : Hid (clampK (leN k) = K) := hKe
  clear hK hU hUe hKe
  go_enter Tryd.func14, Tryd.ntmps14
  go_wp2_with fail
  refine (refFfrom_any ub uc ul w HUb.out).mono ?_
  rintro e V1 ⟨ua, un, uq, rfl, hb, hd⟩
  rw [HUe.out] at hd
  have HD : Hid (Dig V1 ua un uq U) := hd
  have HW : Hid (Below w.heap.size w V1) := hb
  clear hd hb
  go_wp2
  generalize hB : V1.heap.size = B
  obtain ⟨W0, hW0⟩ : ∃ W0, ((((V1.alloc (.cells #[.int .i64 1] 3)).alloc (.cells #[] 3)).alloc (.cells #[.slice (some ⟨B, 0, none⟩) 1 1, .slice (some ⟨B + 1, 0, none⟩) 0 0] 56)).alloc (.cells #[.int .i64 1] 3)).alloc (.cells #[.slice ua un uq, .slice (some ⟨B + 1 + 1 + 1, 0, none⟩) 1 1] 56) = W0 := ⟨_, rfl⟩
  rw [hW0]
  have hL0 : Ml w (B + 1 + 1) (B + 1 + 1 + 1 + 1) ua un uq U ka k (some ⟨B, 0, none⟩) 1 1 1 (some ⟨B + 1, 0, none⟩) 0 0 0 ua un uq U (some ⟨B + 1 + 1 + 1, 0, none⟩) 1 1 1 0 W0 := by
    have hsz := HW.out.size
    have b1 : Below V1.heap.size V1 W0 := by
      rw [← hW0]
      exact (((((Below.refl _ _).alloc (Nat.le_refl _) _).alloc (by simp) _).alloc (by simp <;> omega) _).alloc (by simp <;> omega) _).alloc (by simp <;> omega) _
    have g0 : W0.heap[B]? = some (.cells #[.int .i64 1] 3 (0, 0)) := by
      rw [← hW0, Below.heap_alloc _ _ _ (by simp <;> omega), Below.heap_alloc _ _ _ (by simp <;> omega), Below.heap_alloc _ _ _ (by simp <;> omega), Below.heap_alloc _ _ _ (by simp <;> omega), ← hB]
      exact heap_alloc_new V1 _
    have g2 : W0.heap[B + 1 + 1]? = some (.cells #[.slice (some ⟨B, 0, none⟩) 1 1, .slice (some ⟨B + 1, 0, none⟩) 0 0] 56 (0, 0)) := by
      have h := heap_alloc_new ((V1.alloc (.cells #[.int .i64 1] 3)).alloc (.cells #[] 3)) (.cells #[.slice (some ⟨B, 0, none⟩) 1 1, .slice (some ⟨B + 1, 0, none⟩) 0 0] 56)
      rw [World.size_alloc, World.size_alloc, hB] at h
      rw [← hW0, Below.heap_alloc _ _ _ (by simp <;> omega), Below.heap_alloc _ _ _ (by simp <;> omega)]
      exact h
    have g3 : W0.heap[B + 1 + 1 + 1]? = some (.cells #[.int .i64 1] 3 (0, 0)) := by
      have h := heap_alloc_new (((V1.alloc (.cells #[.int .i64 1] 3)).alloc (.cells #[] 3)).alloc (.cells #[.slice (some ⟨B, 0, none⟩) 1 1, .slice (some ⟨B + 1, 0, none⟩) 0 0] 56)) (.cells #[.int .i64 1] 3)
      rw [World.size_alloc, World.size_alloc, World.size_alloc, hB] at h
      rw [← hW0, Below.heap_alloc _ _ _ (by simp <;> omega)]
      exact h
    have g4 : W0.heap[B + 1 + 1 + 1 + 1]? = some (.cells #[.slice ua un uq, .slice (some ⟨B + 1 + 1 + 1, 0, none⟩) 1 1] 56 (0, 0)) := by
      have h := heap_alloc_new ((((V1.alloc (.cells #[.int .i64 1] 3)).alloc (.cells #[] 3)).alloc (.cells #[.slice (some ⟨B, 0, none⟩) 1 1, .slice (some ⟨B + 1, 0, none⟩) 0 0] 56)).alloc (.cells #[.int .i64 1] 3)) (.cells #[.slice ua un uq, .slice (some ⟨B + 1 + 1 + 1, 0, none⟩) 1 1] 56)
      rw [World.size_alloc, World.size_alloc, World.size_alloc, World.size_alloc, hB] at h
      rw [← hW0]
      exact h
    have one : ∀ g, W0.heap[g]? = some (.cells #[.int .i64 1] 3 (0, 0)) → Dig W0 (some ⟨g, 0, none⟩) 1 1 1 := fun g hg => by
      refine ⟨⟨by rw [dig_1]; rfl, .inr ⟨g, 0, rfl, fun i hi => ?_⟩⟩, Nat.le_refl _⟩
      obtain rfl : i = 0 := by omega
      rw [dig_1, cell_of_row _ _ _ _ _ (0, 0) hg]
      rfl
    refine ⟨g2, g4, one _ g0, ⟨⟨by rw [dig_zero]; rfl, .inl rfl⟩, Nat.le_refl _⟩, HD.out.later b1, one _ g3, HD.out.later b1, HK.out.later (HW.out.trans (b1.mono HW.out.size)), HKl.out, by decide, by decide, hUl, by decide, hUl, ?_, by omega, by omega, by omega, HW.out.trans (b1.mono HW.out.size)⟩
    exact Lad.first (phi U)
  have hK0 : K / 2 ^ 255 = 0 := Nat.div_eq_of_lt (by rw [← HKe.out]; exact clampK_lt _)
  rw [← hK0] at hL0
  have HL0 := hid_up hL0
  clear hL0 hW0 hK0 HD HW HK HKl hB HUb HUe
  obtain ⟨g7, hg7⟩ : ∃ g, B + 1 + 1 + 1 + 1 = g := ⟨_, rfl⟩
  obtain ⟨g6, hg6⟩ : ∃ g, B + 1 + 1 = g := ⟨_, rfl⟩
  rw [hg7, hg6] at HL0
  rw [hg7, hg6]
  clear hg7 hg6
  go_loopw [8] (fun i wr => ∃ (c : Nat) (a1 : Option Addr) (n1 q1 x2 : Nat) (a2 : Option Addr) (n2 q2 z2 : Nat) (a3 : Option Addr) (n3 q3 x3 : Nat) (a4 : Option Addr) (n4 q4 z3 : Nat), c ≤ 255 ∧ i = .int .i64 ((c : Int) - 1) ∧ Hid (Ml w g6 g7 ua un uq U ka k a1 n1 q1 x2 a2 n2 q2 z2 a3 n3 q3 x3 a4 n4 q4 z3 (K / 2 ^ c) wr)) (fun i _ => (intOf i + 1).toNat)
  case atStart => exact ⟨255, _, _, _, _, _, _, _, _, _, _, _, _, _, _, _, _, Nat.le_refl _, rfl, HL0⟩
  case round =>
    clear HL0
    obtain ⟨c, a1, n1, q1, x2, a2, n2, q2, z2, a3, n3, q3, x3, a4, n4, q4, z3, hc, rfl, hL⟩ := hrel
    by_cases hc0 : c = 0
    · subst hc0
      have hi0 : ¬ (0 : Int) ≤ ((0 : Nat) : Int) - 1 := by omega
      have HMX : Hid (MultX K (phi U) (phi (fM x2 (finv z2)))) := by
        have h := hL.out.lad.done (isX_pt hL.out.l2)
        rw [Nat.pow_zero, Nat.div_one] at h
        exact h
      have hdr : Below wr.heap.size wr wr.drew := (Below.refl _ _).drew
      replace hL := hid_up (hL.out.later hdr)
      clear hdr
      go_wp2_with fail
      obtain ⟨W, hWd⟩ : ∃ W, wr.drew = W := ⟨_, rfl⟩
      have HWd : Hid (wr.drew = W) := hWd
      rw [hWd] at hL
      clear hWd
      refine wp_region_sched' (G := Grows) (by kernel_rfl) Grows.refl Grows.trans (by kernel_rfl) [(0, true), (1, true), (2, true), (3, true), (4, false), (5, false), (6, false), (7, true)] rfl (by kernel_rfl) ?_
      intro KK hKK
      rw [HWd.out]
      clear HWd
      iterate 4 (refine sched_take rfl (by rfl) (v := ?_) ?_ ?_; rotate_left; (intro w' hw'; have c1 := (hL.out.later hw').p6.one; have c2 := (hL.out.later hw').p6.two; clear hw'; go_simp; with_reducible rfl); go_simp)
      refine sched_call (f := 29) (args := #[.slice a2 n2 q2]) rfl (by rfl) (by go_simp) ?_
      refine (refFinv_any a2 n2 q2 z2 W hL.out.d2 hL.out.l2).mono ?_
      rintro e U1 ⟨ai, ni, qi, rfl, hb, hd⟩
      refine ⟨_, rfl, hb, ?_⟩
      have HDi : Hid (Dig U1 ai ni qi (finv z2)) := hd
      replace hL := hid_up (hL.out.later hb)
      clear hb hd
      go_simp
      refine sched_call (f := 28) (args := #[.slice a1 n1 q1, .slice ai ni qi]) rfl (by rfl) (by go_simp) ?_
      refine (refFmul_any a1 n1 q1 x2 ai ni qi (finv z2) U1 hL.out.d1 HDi.out (lt33 hL.out.l1) (lt33 (finv_lt z2))).mono ?_
      rintro e U2 ⟨am, nm, qm, rfl, hb, hd⟩
      refine ⟨_, rfl, hb, ?_⟩
      obtain ⟨m, hm⟩ : ∃ m, fM x2 (finv z2) = m := ⟨_, rfl⟩
      have hml : m < P255 := by rw [← hm]; exact fM_lt _ _
      have HDm : Hid (Dig U2 am nm qm m) := by rw [← hm]; exact hd
      rw [hm] at HMX
      replace hL := hid_up (hL.out.later hb)
      clear hb hd hm
      go_simp
      refine sched_call (f := 27) (args := #[.slice am nm qm]) rfl (by rfl) (by go_simp) ?_
      refine (refFbytes_any am nm qm m U2 HDm.out (Nat.le_trans (HDm.out.len (lt33 hml)) (by decide))).mono ?_
      rintro e U3 ⟨gb, rfl, hge, hb, hby⟩
      refine ⟨_, rfl, hb, ?_⟩
      have HBy : Hid (Byt U3 (some ⟨gb, 0, none⟩) 32 (leB 32 m)) := hby
      have HGe : Hid (w.heap.size ≤ gb) := Nat.le_trans hL.out.bel.size hge
      replace hL := hid_up (hL.out.later hb)
      clear hb hby hge
      go_simp
      iterate 1 (refine sched_take rfl (by rfl) (v := ?_) ?_ ?_; rotate_left; (intro w' hw'; clear hw'; go_simp; with_reducible rfl); go_simp)
      refine sched_done hKK ?_
      clear hKK
      (try go_wp2)
      go_ret
      exact ⟨gb, m, rfl, HGe.out, hL.out.bel, hml, HBy.out, HMX.out⟩
    · obtain ⟨i, rfl⟩ : ∃ i, c = i + 1 := ⟨c - 1, by omega⟩
      have hci : ((i + 1 : Nat) : Int) - 1 = (i : Int) := by omega
      rw [hci]
      clear hci hc0
      have hi0 : (0 : Int) ≤ (i : Int) := by omega
      obtain ⟨q8, hq8⟩ : ∃ q, i / 8 = q := ⟨_, rfl⟩
      obtain ⟨r8, hr8⟩ : ∃ r, i % 8 = r := ⟨_, rfl⟩
      have hq32 : q8 < 32 := by omega
      have hr7 : r8 < 8 := by omega
      have t1 : (i : Int).tdiv 8 = (q8 : Int) := by rw [Int.tdiv_eq_ediv_of_nonneg (by omega)]; omega
      have t2 : (i : Int).tmod 8 = (r8 : Int) := by rw [Int.tmod_eq_emod_of_nonneg (by omega)]; omega
      have t3 : (q8 : Int) < 32 := by omega
      obtain ⟨b, off, rfl, hcell⟩ := hL.out.kb.at_ q8 hq32
      obtain ⟨t, ht⟩ : ∃ t, (at8 k q8).toNat = t := ⟨_, rfl⟩
      have htl : t < 256 := by rw [← ht]; exact (at8 k q8).toNat_lt
      rw [ht] at hcell
      have hbit := key_bit k i (by omega)
      rw [hq8, hr8, ht] at hbit
      obtain ⟨v, hv⟩ : ∃ v, t / 2 ^ r8 = v := ⟨_, rfl⟩
      have hvl : v < 256 := by rw [← hv]; exact Nat.lt_of_le_of_lt (Nat.div_le_self _ _) htl
      have t4 : (t : Int) / 2 ^ r8 = (v : Int) := by rw [← hv, Int.natCast_ediv]; simp
      obtain ⟨bb, hbb⟩ : ∃ bb, v % 2 = bb := ⟨_, rfl⟩
      have t5 : bits .and .u8 (v : Int) 1 = (bb : Int) := by rw [and1b v hvl, hbb]
      rw [hv, hbb] at hbit
      have HBit := hid_up hbit
      have hKt := clampK_test (leN k) i
      rw [HKe.out] at hKt
      have HKt := hid_up hKt
      have HKs := hid_up (half_step K i)
      have HQ8 := hid_up hq8
      have HR8 := hid_up hr8
      clear hbit hKt hv hbb ht hq8 hr8
      have HT : ∀ x : Bool, K.testBit i = x → K / 2 ^ i % 2 = (if x then 1 else 0) := fun x hx => by
        cases x with
        | true => exact (bit_of K i).2 hx
        | false =>
          have h := fun h1 => Bool.false_ne_true (hx.symm.trans ((bit_of K i).1 h1))
          have h2 := Nat.mod_lt (K / 2 ^ i) (show 0 < 2 by decide)
          simp only [Bool.false_eq_true, if_false]
          have h3 : ¬ K / 2 ^ i % 2 = 1 := h
          omega
      by_cases h254 : i = 254
      · have HN : Hid (K / 2 ^ i = 2 * (K / 2 ^ (i + 1)) + 1) := by
          have h := HT true (by rw [HKt.out]; simp [h254])
          have h2 := HKs.out
          rw [h] at h2
          exact h2
        clear HT
        subst h254
        obtain rfl : q8 = 31 := by have := HQ8.out; omega
        obtain rfl : r8 = 6 := by have := HR8.out; omega
        have t4' : (t : Int) / 64 = (v : Int) := by simpa using t4
        clear t4
        have hinf : Hid ((Tryd.prog.info? 56).map (·.size) = some (#[.slice a1 n1 q1, .slice a2 n2 q2] : Array Value).size) := by show _ = _; kernel_rfl
        have hinf7 : Hid ((Tryd.prog.info? 56).map (·.size) = some (#[.slice a3 n3 q3, .slice a4 n4 q4] : Array Value).size) := by show _ = _; kernel_rfl
        go_wp2_with (first | refine wpList_load_row rfl 56 _ rfl g6 rfl 56 _ (0, 0) _ hL.out.p6 Tryd.underlying56 rfl hinf.out ?_ | refine wpList_load_row rfl 56 _ rfl g7 rfl 56 _ (0, 0) _ hL.out.p7 Tryd.underlying56 rfl hinf7.out ?_ | fail)
        refine (refStep_any ua un uq U a3 n3 q3 x3 a4 n4 q4 z3 a1 n1 q1 x2 a2 n2 q2 z2 wr hL.out.du hL.out.d3 hL.out.d4 hL.out.d1 hL.out.d2 hL.out.lu hL.out.l3 hL.out.l4 hL.out.l1 hL.out.l2).mono ?_
        rintro e V ⟨b1, m1, r1, b2, m2, r2, b3, m3, r3, b4, m4, r4, rfl, hb, e1, e2, e3, e4⟩
        have hl := hL.out.lad.one
        rw [← step_two U x3 z3 x2 z2 hL.out.l4 hL.out.l2, ← step_one U x3 z3 x2 z2 hL.out.l4 hL.out.l2] at hl
        have hML := (hL.out.put hb e3 e4 e1 e2 (fM_lt _ _) (fM_lt _ _) (fM_lt _ _) (fM_lt _ _) hl).2
        rw [← HN.out] at hML
        have hin1 : Hid ((Tryd.prog.info? 56).map (·.size) = some (#[.slice b1 m1 r1, .slice b2 m2 r2] : Array Value).size) := by show _ = _; kernel_rfl
        have hin2 : Hid ((Tryd.prog.info? 56).map (·.size) = some (#[.slice b3 m3 r3, .slice b4 m4 r4] : Array Value).size) := by show _ = _; kernel_rfl
        have hal1 : Hid ((#[.slice b1 m1 r1, .slice b2 m2 r2] : Array Value).all (·.oneCell') = true) := by show _ = _; simp [Value.oneCell']
        have hal2 : Hid ((#[.slice b3 m3 r3, .slice b4 m4 r4] : Array Value).all (·.oneCell') = true) := by show _ = _; simp [Value.oneCell']
        have HO1 := hid_up (hL.out.p7.later hb)
        have hq : Pnt (V.setRow g7 #[.slice b1 m1 r1, .slice b2 m2 r2]) g6 (.slice a1 n1 q1) (.slice a2 n2 q2) := by unfold Pnt; rw [setRow_other _ _ _ _ hL.out.ne]; exact hL.out.p6.later hb
        obtain ⟨X1, hX1⟩ : ∃ X, V.setRow g7 #[.slice b1 m1 r1, .slice b2 m2 r2] = X := ⟨_, rfl⟩
        rw [hX1] at hML hq
        obtain ⟨X2, hX2⟩ : ∃ X, X1.setRow g6 #[.slice b3 m3 r3, .slice b4 m4 r4] = X := ⟨_, rfl⟩
        rw [hX2] at hML
        have HQ := hid_up hq
        have HX1 := hid_up hX1
        have HX2 := hid_up hX2
        have HML := hid_up hML
        clear hML hq hX1 hX2 hb e1 e2 e3 e4 hl hL HN HKs HKt HBit
        go_wp2_with (first | (refine wpList_store_row rfl 56 _ _ rfl g7 #[.slice b1 m1 r1, .slice b2 m2 r2] rfl rfl 56 _ HO1.out hin1.out rfl hal1.out ?_; rw [HX1.out]) | (refine wpList_store_row rfl 56 _ _ rfl g6 #[.slice b3 m3 r3, .slice b4 m4 r4] rfl rfl 56 _ HQ.out hin2.out rfl hal2.out ?_; rw [HX2.out]) | fail)
        exact ⟨⟨254, b3, m3, r3, _, b4, m4, r4, _, b1, m1, r1, _, b2, m2, r2, _, by omega, rfl, HML⟩, by simp [intOf] <;> omega⟩
      · have h254i : ¬ (i : Int) = 254 := by omega
        by_cases h3 : i < 3
        · have h3i : (i : Int) < 3 := by omega
          have HN : Hid (K / 2 ^ i = 2 * (K / 2 ^ (i + 1))) := by
            have h := HT false (by rw [HKt.out]; simp [h254, show ¬ 3 ≤ i by omega])
            have h2 := HKs.out
            rw [h] at h2
            exact h2
          clear HT
          have hinf : Hid ((Tryd.prog.info? 56).map (·.size) = some (#[.slice a1 n1 q1, .slice a2 n2 q2] : Array Value).size) := by show _ = _; kernel_rfl
          have hinf7 : Hid ((Tryd.prog.info? 56).map (·.size) = some (#[.slice a3 n3 q3, .slice a4 n4 q4] : Array Value).size) := by show _ = _; kernel_rfl
          go_wp2_with (first | refine wpList_load_row rfl 56 _ rfl g6 rfl 56 _ (0, 0) _ hL.out.p6 Tryd.underlying56 rfl hinf.out ?_ | refine wpList_load_row rfl 56 _ rfl g7 rfl 56 _ (0, 0) _ hL.out.p7 Tryd.underlying56 rfl hinf7.out ?_ | fail)
          refine (refStep_any ua un uq U a1 n1 q1 x2 a2 n2 q2 z2 a3 n3 q3 x3 a4 n4 q4 z3 wr hL.out.du hL.out.d1 hL.out.d2 hL.out.d3 hL.out.d4 hL.out.lu hL.out.l1 hL.out.l2 hL.out.l3 hL.out.l4).mono ?_
          rintro e V ⟨b1, m1, r1, b2, m2, r2, b3, m3, r3, b4, m4, r4, rfl, hb, e1, e2, e3, e4⟩
          have hl := hL.out.lad.zero
          rw [← step_one U x2 z2 x3 z3 hL.out.l2 hL.out.l4, ← step_two U x2 z2 x3 z3 hL.out.l2 hL.out.l4] at hl
          have hML := (hL.out.put hb e1 e2 e3 e4 (fM_lt _ _) (fM_lt _ _) (fM_lt _ _) (fM_lt _ _) hl).1
          rw [← HN.out] at hML
          have hin1 : Hid ((Tryd.prog.info? 56).map (·.size) = some (#[.slice b1 m1 r1, .slice b2 m2 r2] : Array Value).size) := by show _ = _; kernel_rfl
          have hin2 : Hid ((Tryd.prog.info? 56).map (·.size) = some (#[.slice b3 m3 r3, .slice b4 m4 r4] : Array Value).size) := by show _ = _; kernel_rfl
          have hal1 : Hid ((#[.slice b1 m1 r1, .slice b2 m2 r2] : Array Value).all (·.oneCell') = true) := by show _ = _; simp [Value.oneCell']
          have hal2 : Hid ((#[.slice b3 m3 r3, .slice b4 m4 r4] : Array Value).all (·.oneCell') = true) := by show _ = _; simp [Value.oneCell']
          have HO1 := hid_up (hL.out.p6.later hb)
          have hq : Pnt (V.setRow g6 #[.slice b1 m1 r1, .slice b2 m2 r2]) g7 (.slice a3 n3 q3) (.slice a4 n4 q4) := by unfold Pnt; rw [setRow_other _ _ _ _ (fun e => hL.out.ne e.symm)]; exact hL.out.p7.later hb
          obtain ⟨X1, hX1⟩ : ∃ X, V.setRow g6 #[.slice b1 m1 r1, .slice b2 m2 r2] = X := ⟨_, rfl⟩
          rw [hX1] at hML hq
          obtain ⟨X2, hX2⟩ : ∃ X, X1.setRow g7 #[.slice b3 m3 r3, .slice b4 m4 r4] = X := ⟨_, rfl⟩
          rw [hX2] at hML
          have HQ := hid_up hq
          have HX1 := hid_up hX1
          have HX2 := hid_up hX2
          have HML := hid_up hML
          clear hML hq hX1 hX2 hb e1 e2 e3 e4 hl hL HN HKs HKt HBit
          go_wp2_with (first | (refine wpList_store_row rfl 56 _ _ rfl g6 #[.slice b1 m1 r1, .slice b2 m2 r2] rfl rfl 56 _ HO1.out hin1.out rfl hal1.out ?_; rw [HX1.out]) | (refine wpList_store_row rfl 56 _ _ rfl g7 #[.slice b3 m3 r3, .slice b4 m4 r4] rfl rfl 56 _ HQ.out hin2.out rfl hal2.out ?_; rw [HX2.out]) | fail)
          exact ⟨⟨i, b1, m1, r1, _, b2, m2, r2, _, b3, m3, r3, _, b4, m4, r4, _, by omega, rfl, HML⟩, by simp [intOf] <;> omega⟩
        · have h3i : ¬ (i : Int) < 3 := by omega
          have hbl : bb = 0 ∨ bb = 1 := by have := HBit.out; have := Nat.mod_lt (leN k / 2 ^ i) (show 0 < 2 by decide); omega
          rcases hbl with rfl | rfl
          · have HN : Hid (K / 2 ^ i = 2 * (K / 2 ^ (i + 1))) := by
              have hf : (leN k).testBit i = false := by
                cases hx : (leN k).testBit i with
                | false => rfl
                | true => exact absurd ((bit_of (leN k) i).2 hx) (by rw [HBit.out]; decide)
              have h := HT false (by rw [HKt.out]; simp [h254, hf])
              have h2 := HKs.out
              rw [h] at h2
              exact h2
            clear HT
            have hinf : Hid ((Tryd.prog.info? 56).map (·.size) = some (#[.slice a1 n1 q1, .slice a2 n2 q2] : Array Value).size) := by show _ = _; kernel_rfl
            have hinf7 : Hid ((Tryd.prog.info? 56).map (·.size) = some (#[.slice a3 n3 q3, .slice a4 n4 q4] : Array Value).size) := by show _ = _; kernel_rfl
            go_wp2_with (first | refine wpList_load_row rfl 56 _ rfl g6 rfl 56 _ (0, 0) _ hL.out.p6 Tryd.underlying56 rfl hinf.out ?_ | refine wpList_load_row rfl 56 _ rfl g7 rfl 56 _ (0, 0) _ hL.out.p7 Tryd.underlying56 rfl hinf7.out ?_ | fail)
            refine (refStep_any ua un uq U a1 n1 q1 x2 a2 n2 q2 z2 a3 n3 q3 x3 a4 n4 q4 z3 wr hL.out.du hL.out.d1 hL.out.d2 hL.out.d3 hL.out.d4 hL.out.lu hL.out.l1 hL.out.l2 hL.out.l3 hL.out.l4).mono ?_
            rintro e V ⟨b1, m1, r1, b2, m2, r2, b3, m3, r3, b4, m4, r4, rfl, hb, e1, e2, e3, e4⟩
            have hl := hL.out.lad.zero
            rw [← step_one U x2 z2 x3 z3 hL.out.l2 hL.out.l4, ← step_two U x2 z2 x3 z3 hL.out.l2 hL.out.l4] at hl
            have hML := (hL.out.put hb e1 e2 e3 e4 (fM_lt _ _) (fM_lt _ _) (fM_lt _ _) (fM_lt _ _) hl).1
            rw [← HN.out] at hML
            have hin1 : Hid ((Tryd.prog.info? 56).map (·.size) = some (#[.slice b1 m1 r1, .slice b2 m2 r2] : Array Value).size) := by show _ = _; kernel_rfl
            have hin2 : Hid ((Tryd.prog.info? 56).map (·.size) = some (#[.slice b3 m3 r3, .slice b4 m4 r4] : Array Value).size) := by show _ = _; kernel_rfl
            have hal1 : Hid ((#[.slice b1 m1 r1, .slice b2 m2 r2] : Array Value).all (·.oneCell') = true) := by show _ = _; simp [Value.oneCell']
            have hal2 : Hid ((#[.slice b3 m3 r3, .slice b4 m4 r4] : Array Value).all (·.oneCell') = true) := by show _ = _; simp [Value.oneCell']
            have HO1 := hid_up (hL.out.p6.later hb)
            have hq : Pnt (V.setRow g6 #[.slice b1 m1 r1, .slice b2 m2 r2]) g7 (.slice a3 n3 q3) (.slice a4 n4 q4) := by unfold Pnt; rw [setRow_other _ _ _ _ (fun e => hL.out.ne e.symm)]; exact hL.out.p7.later hb
            obtain ⟨X1, hX1⟩ : ∃ X, V.setRow g6 #[.slice b1 m1 r1, .slice b2 m2 r2] = X := ⟨_, rfl⟩
            rw [hX1] at hML hq
            obtain ⟨X2, hX2⟩ : ∃ X, X1.setRow g7 #[.slice b3 m3 r3, .slice b4 m4 r4] = X := ⟨_, rfl⟩
            rw [hX2] at hML
            have HQ := hid_up hq
            have HX1 := hid_up hX1
            have HX2 := hid_up hX2
            have HML := hid_up hML
            clear hML hq hX1 hX2 hb e1 e2 e3 e4 hl hL HN HKs HKt HBit
            go_wp2_with (first | (refine wpList_store_row rfl 56 _ _ rfl g6 #[.slice b1 m1 r1, .slice b2 m2 r2] rfl rfl 56 _ HO1.out hin1.out rfl hal1.out ?_; rw [HX1.out]) | (refine wpList_store_row rfl 56 _ _ rfl g7 #[.slice b3 m3 r3, .slice b4 m4 r4] rfl rfl 56 _ HQ.out hin2.out rfl hal2.out ?_; rw [HX2.out]) | fail)
            exact ⟨⟨i, b1, m1, r1, _, b2, m2, r2, _, b3, m3, r3, _, b4, m4, r4, _, by omega, rfl, HML⟩, by simp [intOf] <;> omega⟩
          · have HN : Hid (K / 2 ^ i = 2 * (K / 2 ^ (i + 1)) + 1) := by
              have hf : (leN k).testBit i = true := (bit_of (leN k) i).1 HBit.out
              have h := HT true (by rw [HKt.out]; simp [hf, show 3 ≤ i by omega, show i < 254 by omega])
              have h2 := HKs.out
              rw [h] at h2
              exact h2
            clear HT
            have hinf : Hid ((Tryd.prog.info? 56).map (·.size) = some (#[.slice a1 n1 q1, .slice a2 n2 q2] : Array Value).size) := by show _ = _; kernel_rfl
            have hinf7 : Hid ((Tryd.prog.info? 56).map (·.size) = some (#[.slice a3 n3 q3, .slice a4 n4 q4] : Array Value).size) := by show _ = _; kernel_rfl
            go_wp2_with (first | refine wpList_load_row rfl 56 _ rfl g6 rfl 56 _ (0, 0) _ hL.out.p6 Tryd.underlying56 rfl hinf.out ?_ | refine wpList_load_row rfl 56 _ rfl g7 rfl 56 _ (0, 0) _ hL.out.p7 Tryd.underlying56 rfl hinf7.out ?_ | fail)
            refine (refStep_any ua un uq U a3 n3 q3 x3 a4 n4 q4 z3 a1 n1 q1 x2 a2 n2 q2 z2 wr hL.out.du hL.out.d3 hL.out.d4 hL.out.d1 hL.out.d2 hL.out.lu hL.out.l3 hL.out.l4 hL.out.l1 hL.out.l2).mono ?_
            rintro e V ⟨b1, m1, r1, b2, m2, r2, b3, m3, r3, b4, m4, r4, rfl, hb, e1, e2, e3, e4⟩
            have hl := hL.out.lad.one
            rw [← step_two U x3 z3 x2 z2 hL.out.l4 hL.out.l2, ← step_one U x3 z3 x2 z2 hL.out.l4 hL.out.l2] at hl
            have hML := (hL.out.put hb e3 e4 e1 e2 (fM_lt _ _) (fM_lt _ _) (fM_lt _ _) (fM_lt _ _) hl).2
            rw [← HN.out] at hML
            have hin1 : Hid ((Tryd.prog.info? 56).map (·.size) = some (#[.slice b1 m1 r1, .slice b2 m2 r2] : Array Value).size) := by show _ = _; kernel_rfl
            have hin2 : Hid ((Tryd.prog.info? 56).map (·.size) = some (#[.slice b3 m3 r3, .slice b4 m4 r4] : Array Value).size) := by show _ = _; kernel_rfl
            have hal1 : Hid ((#[.slice b1 m1 r1, .slice b2 m2 r2] : Array Value).all (·.oneCell') = true) := by show _ = _; simp [Value.oneCell']
            have hal2 : Hid ((#[.slice b3 m3 r3, .slice b4 m4 r4] : Array Value).all (·.oneCell') = true) := by show _ = _; simp [Value.oneCell']
            have HO1 := hid_up (hL.out.p7.later hb)
            have hq : Pnt (V.setRow g7 #[.slice b1 m1 r1, .slice b2 m2 r2]) g6 (.slice a1 n1 q1) (.slice a2 n2 q2) := by unfold Pnt; rw [setRow_other _ _ _ _ hL.out.ne]; exact hL.out.p6.later hb
            obtain ⟨X1, hX1⟩ : ∃ X, V.setRow g7 #[.slice b1 m1 r1, .slice b2 m2 r2] = X := ⟨_, rfl⟩
            rw [hX1] at hML hq
            obtain ⟨X2, hX2⟩ : ∃ X, X1.setRow g6 #[.slice b3 m3 r3, .slice b4 m4 r4] = X := ⟨_, rfl⟩
            rw [hX2] at hML
            have HQ := hid_up hq
            have HX1 := hid_up hX1
            have HX2 := hid_up hX2
            have HML := hid_up hML
            clear hML hq hX1 hX2 hb e1 e2 e3 e4 hl hL HN HKs HKt HBit
            go_wp2_with (first | (refine wpList_store_row rfl 56 _ _ rfl g7 #[.slice b1 m1 r1, .slice b2 m2 r2] rfl rfl 56 _ HO1.out hin1.out rfl hal1.out ?_; rw [HX1.out]) | (refine wpList_store_row rfl 56 _ _ rfl g6 #[.slice b3 m3 r3, .slice b4 m4 r4] rfl rfl 56 _ HQ.out hin2.out rfl hal2.out ?_; rw [HX2.out]) | fail)
            exact ⟨⟨i, b3, m3, r3, _, b4, m4, r4, _, b1, m1, r1, _, b2, m2, r2, _, by omega, rfl, HML⟩, by simp [intOf] <;> omega⟩
  
end Go.Proofs.YtmdoojfcgbokjaaDoor

/- The walk over the document's Public (curve), and what its Mult tells as a number. -/
namespace Go.Proofs.YtmdoojfcgbokjaaDoor
set_option linter.unusedVariables false
open Go.RowKit

theorem refMult_told (ka : Option Addr) (kc : Nat) (k : List UInt8) (ub : Option Addr) (uc : Nat) (ul : List UInt8) (w : World) (hK : Byt w ka 32 k) (hU : Byt w ub 32 ul) :
    Calls Tryd.prog 14 #[.slice ka 32 kc, .slice ub 32 uc] w fun e w' => ∃ g, e = .returned (.slice (some ⟨g, 0, none⟩) 32 32) ∧ Below w.heap.size w w' ∧ Byt w' (some ⟨g, 0, none⟩) 32 (leB 32 (mK k ul)) := by
  refine (refMult_any ka kc k ub uc ul w hK hU).mono ?_
  rintro e w' ⟨g, m, rfl, _, hb, hm, hB, hX⟩
  rw [mX_eq hm hX] at hB
  exact ⟨g, rfl, hb, hB⟩
def nineD : List UInt8 := 9 :: List.replicate 31 0
theorem nineD_val : modU nineD = 9 := by decide +kernel

/-- 'make([]byte, n)', as a block of its own. -/
theorem make_row (w : World) (n : Nat) (h : n ≤ 2000000) :
    (Instr.makeSlice 29 (.int .i64 (n : Int)) (.int .i64 (n : Int))).run Tryd.prog w = .ok (.slice (some ⟨w.heap.size, 0, none⟩) n n) (w.alloc (.cells ((List.replicate n (0 : UInt8)).map bv).toArray 5)) := by
  obtain ⟨i0, hi, hz0, hz1, hz2⟩ := info_parts Tryd.infoU8
  have hr := run_make (P := Tryd.prog) w 29 5 i0 (.int .u8 0) Tryd.underlying29 hi hz0 .i64 .i64 (n : Int) (n : Int) (by omega) (by omega) (by rw [hz2]; omega) (by omega)
  have e1 : ((n : Int)).toNat = n := by omega
  rw [e1, hz1, Nat.mul_one] at hr
  have e : (madeCells (Value.int .u8 0).cells n).toList = List.replicate n (.int .u8 0) := toList_madeCells_one _ _
  have e2 : madeCells (Value.int .u8 0).cells n = ((List.replicate n (0 : UInt8)).map bv).toArray := by
    rw [← Array.toList_inj, e]
    simp [bv]
  rw [e2] at hr
  exact hr

set_option maxHeartbeats 4000000 in
set_option maxRecDepth 100000 in
theorem refPublic_any (ka : Option Addr) (kc : Nat) (k : List UInt8) (w : World) (hK : Byt w ka 32 k) :
    Calls Tryd.prog 16 #[.slice ka 32 kc] w fun e w' => ∃ g, e = .returned (.slice (some ⟨g, 0, none⟩) 32 32) ∧ Below w.heap.size w w' ∧ Byt w' (some ⟨g, 0, none⟩) 32 (leB 32 (mX (clampK (leN k)) 9)) := by
  have hmk : (Instr.makeSlice 29 (.int .i64 32) (.int .i64 32)).run Tryd.prog w = .ok (.slice (some ⟨w.heap.size, 0, none⟩) 32 32) (w.alloc (.cells ((List.replicate 32 (0 : UInt8)).map bv).toArray 5)) := make_row w 32 (by omega)
  have hb1 : Below w.heap.size w (w.alloc (.cells ((List.replicate 32 (0 : UInt8)).map bv).toArray 5)) := (Below.refl _ _).alloc (Nat.le_refl _) _
  have hA1 : Arr (w.alloc (.cells ((List.replicate 32 (0 : UInt8)).map bv).toArray 5)) w.heap.size 5 (List.replicate 32 0) := Arr.new w _ _
  obtain ⟨W1, hW1⟩ : ∃ W, w.alloc (.cells ((List.replicate 32 (0 : UInt8)).map bv).toArray 5) = W := ⟨_, rfl⟩
  rw [hW1] at hmk hb1 hA1
  obtain ⟨c0, f0⟩ := hA1.at_ 0 (by decide)
  have hA2 := hA1.set 0 9
  have hb2 := hb1.setCell (p := ⟨w.heap.size, 0, none⟩) (Nat.le_refl _) (.int .u8 9)
  have HA : Hid (Arr (W1.setCell ⟨w.heap.size, 0, none⟩ (.int .u8 9)) w.heap.size 5 nineD) := hA2
  have HW : Hid (Below w.heap.size w (W1.setCell ⟨w.heap.size, 0, none⟩ (.int .u8 9))) := hb2
  have HK : Hid (Byt w ka 32 k) := hK
  clear hK hb1 hA1 hA2 hb2 hW1
  go_enter Tryd.func16, Tryd.ntmps16
  go_wp2_with fail
  refine (refMult_told ka kc k (some ⟨w.heap.size, 0, none⟩) 32 nineD _ (HK.out.later HW.out) (HA.out.byt 32 rfl)).mono ?_
  rintro e V ⟨g, rfl, hb, hB⟩
  have HB : Hid (Byt V (some ⟨g, 0, none⟩) 32 (leB 32 (mX (clampK (leN k)) 9))) := by rw [mK, nineD_val] at hB; exact hB
  have HV : Hid (Below w.heap.size w V) := HW.out.trans (hb.mono HW.out.size)
  clear hb hB hmk c0 f0
  go_wp2
  go_ret
  exact ⟨g, rfl, HV.out, HB.out⟩
end Go.Proofs.YtmdoojfcgbokjaaDoor
