/- The walks over the document's sub and step (curve). -/
import Derived.Test.YtmdoojfcgbokjaaDoorRefFb
import Derived.Test.YtmdoojfcgbokjaaDoorMathLad
import Derived.Test.YtmdoojfcgbokjaaDoorSchedE
import Derived.Test.YtmdoojfcgbokjaaDoorFillW
namespace Go.Proofs.YtmdoojfcgbokjaaDoor
set_option linter.unusedVariables false
open Go.RowKit

theorem lt33 {x : Nat} (h : x < P255) : x < 256 ^ 33 := Nat.lt_trans h (by decide)
set_option maxHeartbeats 1000000 in
set_option maxRecDepth 100000 in
theorem refSub_any (a : Option Addr) (n cap x : Nat) (b : Option Addr) (m capb y : Nat) (w : World) (hA : Dig w a n cap x) (hB : Dig w b m capb y) (hx : x < P255) (hy : y < P255) :
    Calls Tryd.prog 43 #[.slice a n cap, .slice b m capb] w fun e w' => ∃ a' n' cap', e = .returned (.slice a' n' cap') ∧ Below w.heap.size w w' ∧ Dig w' a' n' cap' (fS x y) := by
  have HA : Hid (Dig w a n cap x) := hA
  have HB : Hid (Dig w b m capb y) := hB
  clear hA hB
  go_enter Tryd.func43, Tryd.ntmps43
  go_wp2_with fail
  refine (refFneg_any b m capb y w HB.out (Nat.le_of_lt hy)).mono ?_
  rintro e w1 ⟨a1, n1, q1, rfl, hb1, hd1⟩
  have HD1 : Hid (Dig w1 a1 n1 q1 ((P255 - y) % P255)) := hd1
  have HA1 : Hid (Dig w1 a n cap x) := HA.out.later hb1
  have HW1 : Hid (Below w.heap.size w w1) := hb1
  clear hb1 hd1
  go_wp2_with fail
  refine (refFadd_any a n cap x a1 n1 q1 ((P255 - y) % P255) w1 HA1.out HD1.out (lt33 hx) (mod_small33 _)).mono ?_
  rintro e w2 ⟨a2, n2, q2, rfl, hb2, hd2⟩
  rw [Nat.add_mod_mod] at hd2
  have HD2 : Hid (Dig w2 a2 n2 q2 (fS x y)) := hd2
  have HW2 : Hid (Below w.heap.size w w2) := HW1.out.trans (hb2.mono HW1.out.size)
  clear hb2 hd2
  go_wp2
  go_ret
  exact ⟨a2, n2, q2, rfl, HW2.out, HD2.out⟩
theorem dig_121665 : dig 121665 = [65, 219, 1] := by
  rw [dig_pos 121665 (by decide), dig_pos (121665 / 256) (by decide), dig_pos (121665 / 256 / 256) (by decide)]
  simp [dig_zero]
theorem results_two {P : Program} {fn : Func} {p q : Tmp} {ty : TypeId} (h : fn.results = #[.cell p ty, .cell q ty]) (tmps : Array Value) (w : World) (g1 g2 : Nat) (t : TypeId) (A B : Array Value) (d : TypeDesc)
    (hp : tmps.getD p undef = .pointer (some ⟨g1, 0, none⟩)) (hq : tmps.getD q undef = .pointer (some ⟨g2, 0, none⟩))
    (h1 : w.heap[g1]? = some (.cells A t (0, 0))) (h2 : w.heap[g2]? = some (.cells B t (0, 0)))
    (hu : P.underlying ty = some d) (hd : (match d with | .struct _ | .array _ _ => true | _ => false) = true) (hA : (P.info? ty).map (·.size) = some A.size) (hB : (P.info? ty).map (·.size) = some B.size) :
    (results fn tmps).run P w = .ok (.tuple #[.agg A, .agg B]) w := by
  have hp' : tmps[p]?.getD undef = .pointer (some ⟨g1, 0, none⟩) := by simpa using hp
  have hq' : tmps[q]?.getD undef = .pointer (some ⟨g2, 0, none⟩) := by simpa using hq
  simp [results, h, hp', hq', asAddr, run_loadVar_row w g1 t ty A (0, 0) d h1 hu hd hA, run_loadVar_row w g2 t ty B (0, 0) d h2 hu hd hB]
/-- A point of the document's: two numbers in a block. -/
def Pnt (W : World) (g : Nat) (v1 v2 : Value) : Prop := W.heap[g]? = some (.cells #[v1, v2] 56 (0, 0))
theorem Pnt.lt {w : World} {g : Nat} {v1 v2 : Value} (h : Pnt w g v1 v2) : g < w.heap.size := (Array.getElem?_eq_some_iff.1 h).1
theorem Pnt.later {w w' : World} {g : Nat} {v1 v2 : Value} (h : Pnt w g v1 v2) (hb : Below w.heap.size w w') : Pnt w' g v1 v2 := by
  unfold Pnt
  rw [hb.block g h.lt]
  exact h
theorem Pnt.one {w : World} {g : Nat} {v1 v2 : Value} (h : Pnt w g v1 v2) : w.cell? ⟨g, 0, none⟩ = some v1 := by rw [cell_of_row w g 0 _ _ (0, 0) h]; rfl
theorem Pnt.two {w : World} {g : Nat} {v1 v2 : Value} (h : Pnt w g v1 v2) : w.cell? ⟨g, 1, none⟩ = some v2 := by rw [cell_of_row w g 1 _ _ (0, 0) h]; rfl
/-- A number lies in no block whose cells are no numbers. -/
theorem digPut {W : World} {a : Option Addr} {n cap x g : Nat} {t : TypeId} {cs : List Value} (h : Dig W a n cap x) (hc : W.heap[g]? = some (.cells cs.toArray t (0, 0))) (hk : ∀ v ∈ cs, ∀ d, v ≠ .int .i64 d) (cs' : Array Value) : Dig (W.setRow g cs') a n cap x := by
  refine ⟨⟨h.ints.1, ?_⟩, h.cap⟩
  rcases h.ints.2 with h0 | ⟨b, off, e, hcell⟩
  · exact .inl h0
  · refine .inr ⟨b, off, e, fun i hi => ?_⟩
    have h1 := hcell i hi
    have hne : b ≠ g := by
      intro hbg
      rw [hbg, cell_of_row W g (off + i) _ _ (0, 0) hc] at h1
      have h2 : cs[off + i]? = some (.int .i64 (atD (dig x) i : Int)) := by simpa using h1
      exact hk _ (List.mem_of_getElem? h2) _ rfl
    rw [World.cell?_of_block (w := W) (a := ⟨b, off + i, none⟩) (setRow_other W g b cs' hne)]
    exact h1

set_option maxHeartbeats 4000000 in
set_option maxRecDepth 100000 in
theorem refStep_any (ua : Option Addr) (un uq u : Nat) (xa : Option Addr) (xn xq x2 : Nat) (za : Option Addr) (zn zq z2 : Nat) (ya : Option Addr) (yn yq x3 : Nat) (va : Option Addr) (vn vq z3 : Nat) (w : World)
    (hu : Dig w ua un uq u) (hx : Dig w xa xn xq x2) (hz : Dig w za zn zq z2) (hy : Dig w ya yn yq x3) (hv : Dig w va vn vq z3) (lu : u < P255) (lx : x2 < P255) (lz : z2 < P255) (ly : x3 < P255) (lv : z3 < P255) :
    Calls Tryd.prog 26 #[.slice ua un uq, .agg #[.slice xa xn xq, .slice za zn zq], .agg #[.slice ya yn yq, .slice va vn vq]] w fun e w' =>
      ∃ a1 n1 q1 a2 n2 q2 a3 n3 q3 a4 n4 q4, e = .returned (.tuple #[.agg #[.slice a1 n1 q1, .slice a2 n2 q2], .agg #[.slice a3 n3 q3, .slice a4 n4 q4]]) ∧ Below w.heap.size w w' ∧
        Dig w' a1 n1 q1 (nX2 x2 z2) ∧ Dig w' a2 n2 q2 (nZ2 x2 z2) ∧ Dig w' a3 n3 q3 (nX3 x2 z2 x3 z3) ∧ Dig w' a4 n4 q4 (nZ3 u x2 z2 x3 z3) := by
  obtain ⟨W0, hW0⟩ : ∃ W0, (((w.alloc (.cells #[.slice xa xn xq, .slice za zn zq] 56)).alloc (.cells #[.slice ya yn yq, .slice va vn vq] 56)).alloc (.cells #[.slice none 0 0, .slice none 0 0] 56)).alloc (.cells #[.slice none 0 0, .slice none 0 0] 56) = W0 := ⟨_, rfl⟩
  have hb0 : Below w.heap.size w W0 := by
    rw [← hW0]
    exact ((((Below.refl _ _).alloc (Nat.le_refl _) _).alloc (by simp) _).alloc (by simp <;> omega) _).alloc (by simp <;> omega) _
  have h4 : Pnt W0 w.heap.size (.slice xa xn xq) (.slice za zn zq) := by
    unfold Pnt
    rw [← hW0, Below.heap_alloc _ _ _ (by simp <;> omega), Below.heap_alloc _ _ _ (by simp <;> omega), Below.heap_alloc _ _ _ (by simp)]
    exact heap_alloc_new w _
  have h5 : Pnt W0 (w.heap.size + 1) (.slice ya yn yq) (.slice va vn vq) := by
    unfold Pnt
    have h := heap_alloc_new (w.alloc (.cells #[.slice xa xn xq, .slice za zn zq] 56)) (.cells #[.slice ya yn yq, .slice va vn vq] 56)
    rw [World.size_alloc] at h
    rw [← hW0, Below.heap_alloc _ _ _ (by simp <;> omega), Below.heap_alloc _ _ _ (by simp)]
    exact h
  have h6 : Pnt W0 (w.heap.size + 1 + 1) (.slice none 0 0) (.slice none 0 0) := by
    unfold Pnt
    have h := heap_alloc_new ((w.alloc (.cells #[.slice xa xn xq, .slice za zn zq] 56)).alloc (.cells #[.slice ya yn yq, .slice va vn vq] 56)) (.cells #[.slice none 0 0, .slice none 0 0] 56)
    rw [World.size_alloc, World.size_alloc] at h
    rw [← hW0, Below.heap_alloc _ _ _ (by simp)]
    exact h
  have h7 : Pnt W0 (w.heap.size + 1 + 1 + 1) (.slice none 0 0) (.slice none 0 0) := by
    unfold Pnt
    have h := heap_alloc_new (((w.alloc (.cells #[.slice xa xn xq, .slice za zn zq] 56)).alloc (.cells #[.slice ya yn yq, .slice va vn vq] 56)).alloc (.cells #[.slice none 0 0, .slice none 0 0] 56)) (.cells #[.slice none 0 0, .slice none 0 0] 56)
    rw [World.size_alloc, World.size_alloc, World.size_alloc] at h
    rw [← hW0]
    exact h
  have HW : Hid (Below w.heap.size w W0) := hb0
  have H4 : Hid (Pnt W0 w.heap.size (.slice xa xn xq) (.slice za zn zq)) := h4
  have H5 : Hid (Pnt W0 (w.heap.size + 1) (.slice ya yn yq) (.slice va vn vq)) := h5
  have H6 : Hid (Pnt W0 (w.heap.size + 1 + 1) (.slice none 0 0) (.slice none 0 0)) := h6
  have H7 : Hid (Pnt W0 (w.heap.size + 1 + 1 + 1) (.slice none 0 0) (.slice none 0 0)) := h7
  have HDu := hid_up (hu.later hb0)
  have HDx := hid_up (hx.later hb0)
  have HDz := hid_up (hz.later hb0)
  have HDy := hid_up (hy.later hb0)
  have HDv := hid_up (hv.later hb0)
  have HE0 := hid_up hW0
  have c1 := h4.one
  have c2 := h4.two
  clear hu hx hz hy hv hb0 h4 h5 h6 h7 hW0
  go_enter Tryd.func26, Tryd.ntmps26
  go_wp2_with fail
  rw [HE0.out]
  clear HE0
  clear c1 c2
  refine (refFadd_any xa xn xq x2 za zn zq z2 W0 HDx.out HDz.out (lt33 lx) (lt33 lz)).mono ?_
  rintro e V1 ⟨aA, kA, qA, rfl, hb, hd⟩
  obtain ⟨mA, hm⟩ : ∃ m, fA x2 z2 = m := ⟨_, rfl⟩
  have HDA : Hid (Dig V1 aA kA qA mA) := by rw [← hm]; exact hd
  have HMA : Hid (fA x2 z2 = mA) := hm
  have lA : mA < P255 := by rw [← hm]; exact fA_lt _ _
  replace H4 := hid_up (H4.out.later hb)
  replace H5 := hid_up (H5.out.later hb)
  replace H6 := hid_up (H6.out.later hb)
  replace H7 := hid_up (H7.out.later hb)
  replace HDu := hid_up (HDu.out.later hb)
  replace HDx := hid_up (HDx.out.later hb)
  replace HDz := hid_up (HDz.out.later hb)
  replace HDy := hid_up (HDy.out.later hb)
  replace HDv := hid_up (HDv.out.later hb)
  replace HW := hid_up (HW.out.trans (hb.mono HW.out.size))
  clear hb hd hm
  have c1 := H4.out.one
  have c2 := H4.out.two
  go_wp2_with fail
  clear c1 c2
  refine (refSub_any xa xn xq x2 za zn zq z2 V1 HDx.out HDz.out lx lz).mono ?_
  rintro e V2 ⟨aB, kB, qB, rfl, hb, hd⟩
  obtain ⟨mB, hm⟩ : ∃ m, fS x2 z2 = m := ⟨_, rfl⟩
  have HDB : Hid (Dig V2 aB kB qB mB) := by rw [← hm]; exact hd
  have HMB : Hid (fS x2 z2 = mB) := hm
  have lB : mB < P255 := by rw [← hm]; exact fS_lt _ _
  replace H4 := hid_up (H4.out.later hb)
  replace H5 := hid_up (H5.out.later hb)
  replace H6 := hid_up (H6.out.later hb)
  replace H7 := hid_up (H7.out.later hb)
  replace HDu := hid_up (HDu.out.later hb)
  replace HDx := hid_up (HDx.out.later hb)
  replace HDz := hid_up (HDz.out.later hb)
  replace HDy := hid_up (HDy.out.later hb)
  replace HDv := hid_up (HDv.out.later hb)
  replace HDA := hid_up (HDA.out.later hb)
  replace HW := hid_up (HW.out.trans (hb.mono HW.out.size))
  clear hb hd hm
  go_wp2_with fail
  skip
  refine (refFmul_any aA kA qA mA aA kA qA mA V2 HDA.out HDA.out (lt33 lA) (lt33 lA)).mono ?_
  rintro e V3 ⟨aC, kC, qC, rfl, hb, hd⟩
  obtain ⟨mC, hm⟩ : ∃ m, fM mA mA = m := ⟨_, rfl⟩
  have HDC : Hid (Dig V3 aC kC qC mC) := by rw [← hm]; exact hd
  have HMC : Hid (fM mA mA = mC) := hm
  have lC : mC < P255 := by rw [← hm]; exact fM_lt _ _
  replace H4 := hid_up (H4.out.later hb)
  replace H5 := hid_up (H5.out.later hb)
  replace H6 := hid_up (H6.out.later hb)
  replace H7 := hid_up (H7.out.later hb)
  replace HDu := hid_up (HDu.out.later hb)
  replace HDx := hid_up (HDx.out.later hb)
  replace HDz := hid_up (HDz.out.later hb)
  replace HDy := hid_up (HDy.out.later hb)
  replace HDv := hid_up (HDv.out.later hb)
  replace HDA := hid_up (HDA.out.later hb)
  replace HDB := hid_up (HDB.out.later hb)
  replace HW := hid_up (HW.out.trans (hb.mono HW.out.size))
  clear hb hd hm
  go_wp2_with fail
  skip
  refine (refFmul_any aB kB qB mB aB kB qB mB V3 HDB.out HDB.out (lt33 lB) (lt33 lB)).mono ?_
  rintro e V4 ⟨aD, kD, qD, rfl, hb, hd⟩
  obtain ⟨mD, hm⟩ : ∃ m, fM mB mB = m := ⟨_, rfl⟩
  have HDD : Hid (Dig V4 aD kD qD mD) := by rw [← hm]; exact hd
  have HMD : Hid (fM mB mB = mD) := hm
  have lD : mD < P255 := by rw [← hm]; exact fM_lt _ _
  replace H4 := hid_up (H4.out.later hb)
  replace H5 := hid_up (H5.out.later hb)
  replace H6 := hid_up (H6.out.later hb)
  replace H7 := hid_up (H7.out.later hb)
  replace HDu := hid_up (HDu.out.later hb)
  replace HDx := hid_up (HDx.out.later hb)
  replace HDz := hid_up (HDz.out.later hb)
  replace HDy := hid_up (HDy.out.later hb)
  replace HDv := hid_up (HDv.out.later hb)
  replace HDA := hid_up (HDA.out.later hb)
  replace HDB := hid_up (HDB.out.later hb)
  replace HDC := hid_up (HDC.out.later hb)
  replace HW := hid_up (HW.out.trans (hb.mono HW.out.size))
  clear hb hd hm
  go_wp2_with fail
  skip
  refine (refSub_any aC kC qC mC aD kD qD mD V4 HDC.out HDD.out lC lD).mono ?_
  rintro e V5 ⟨aE, kE, qE, rfl, hb, hd⟩
  obtain ⟨mE, hm⟩ : ∃ m, fS mC mD = m := ⟨_, rfl⟩
  have HDE : Hid (Dig V5 aE kE qE mE) := by rw [← hm]; exact hd
  have HME : Hid (fS mC mD = mE) := hm
  have lE : mE < P255 := by rw [← hm]; exact fS_lt _ _
  replace H4 := hid_up (H4.out.later hb)
  replace H5 := hid_up (H5.out.later hb)
  replace H6 := hid_up (H6.out.later hb)
  replace H7 := hid_up (H7.out.later hb)
  replace HDu := hid_up (HDu.out.later hb)
  replace HDx := hid_up (HDx.out.later hb)
  replace HDz := hid_up (HDz.out.later hb)
  replace HDy := hid_up (HDy.out.later hb)
  replace HDv := hid_up (HDv.out.later hb)
  replace HDA := hid_up (HDA.out.later hb)
  replace HDB := hid_up (HDB.out.later hb)
  replace HDC := hid_up (HDC.out.later hb)
  replace HDD := hid_up (HDD.out.later hb)
  replace HW := hid_up (HW.out.trans (hb.mono HW.out.size))
  clear hb hd hm
  have c1 := H5.out.one
  have c2 := H5.out.two
  go_wp2_with fail
  clear c1 c2
  refine (refSub_any ya yn yq x3 va vn vq z3 V5 HDy.out HDv.out ly lv).mono ?_
  rintro e V6 ⟨aF, kF, qF, rfl, hb, hd⟩
  obtain ⟨mF, hm⟩ : ∃ m, fS x3 z3 = m := ⟨_, rfl⟩
  have HDF : Hid (Dig V6 aF kF qF mF) := by rw [← hm]; exact hd
  have HMF : Hid (fS x3 z3 = mF) := hm
  have lF : mF < P255 := by rw [← hm]; exact fS_lt _ _
  replace H4 := hid_up (H4.out.later hb)
  replace H5 := hid_up (H5.out.later hb)
  replace H6 := hid_up (H6.out.later hb)
  replace H7 := hid_up (H7.out.later hb)
  replace HDu := hid_up (HDu.out.later hb)
  replace HDx := hid_up (HDx.out.later hb)
  replace HDz := hid_up (HDz.out.later hb)
  replace HDy := hid_up (HDy.out.later hb)
  replace HDv := hid_up (HDv.out.later hb)
  replace HDA := hid_up (HDA.out.later hb)
  replace HDB := hid_up (HDB.out.later hb)
  replace HDC := hid_up (HDC.out.later hb)
  replace HDD := hid_up (HDD.out.later hb)
  replace HDE := hid_up (HDE.out.later hb)
  replace HW := hid_up (HW.out.trans (hb.mono HW.out.size))
  clear hb hd hm
  go_wp2_with fail
  skip
  refine (refFmul_any aF kF qF mF aA kA qA mA V6 HDF.out HDA.out (lt33 lF) (lt33 lA)).mono ?_
  rintro e V7 ⟨aG, kG, qG, rfl, hb, hd⟩
  obtain ⟨mG, hm⟩ : ∃ m, fM mF mA = m := ⟨_, rfl⟩
  have HDG : Hid (Dig V7 aG kG qG mG) := by rw [← hm]; exact hd
  have HMG : Hid (fM mF mA = mG) := hm
  have lG : mG < P255 := by rw [← hm]; exact fM_lt _ _
  replace H4 := hid_up (H4.out.later hb)
  replace H5 := hid_up (H5.out.later hb)
  replace H6 := hid_up (H6.out.later hb)
  replace H7 := hid_up (H7.out.later hb)
  replace HDu := hid_up (HDu.out.later hb)
  replace HDx := hid_up (HDx.out.later hb)
  replace HDz := hid_up (HDz.out.later hb)
  replace HDy := hid_up (HDy.out.later hb)
  replace HDv := hid_up (HDv.out.later hb)
  replace HDA := hid_up (HDA.out.later hb)
  replace HDB := hid_up (HDB.out.later hb)
  replace HDC := hid_up (HDC.out.later hb)
  replace HDD := hid_up (HDD.out.later hb)
  replace HDE := hid_up (HDE.out.later hb)
  replace HDF := hid_up (HDF.out.later hb)
  replace HW := hid_up (HW.out.trans (hb.mono HW.out.size))
  clear hb hd hm
  have c1 := H5.out.one
  have c2 := H5.out.two
  go_wp2_with fail
  clear c1 c2
  refine (refFadd_any ya yn yq x3 va vn vq z3 V7 HDy.out HDv.out (lt33 ly) (lt33 lv)).mono ?_
  rintro e V8 ⟨aH, kH, qH, rfl, hb, hd⟩
  obtain ⟨mH, hm⟩ : ∃ m, fA x3 z3 = m := ⟨_, rfl⟩
  have HDH : Hid (Dig V8 aH kH qH mH) := by rw [← hm]; exact hd
  have HMH : Hid (fA x3 z3 = mH) := hm
  have lH : mH < P255 := by rw [← hm]; exact fA_lt _ _
  replace H4 := hid_up (H4.out.later hb)
  replace H5 := hid_up (H5.out.later hb)
  replace H6 := hid_up (H6.out.later hb)
  replace H7 := hid_up (H7.out.later hb)
  replace HDu := hid_up (HDu.out.later hb)
  replace HDx := hid_up (HDx.out.later hb)
  replace HDz := hid_up (HDz.out.later hb)
  replace HDy := hid_up (HDy.out.later hb)
  replace HDv := hid_up (HDv.out.later hb)
  replace HDA := hid_up (HDA.out.later hb)
  replace HDB := hid_up (HDB.out.later hb)
  replace HDC := hid_up (HDC.out.later hb)
  replace HDD := hid_up (HDD.out.later hb)
  replace HDE := hid_up (HDE.out.later hb)
  replace HDF := hid_up (HDF.out.later hb)
  replace HDG := hid_up (HDG.out.later hb)
  replace HW := hid_up (HW.out.trans (hb.mono HW.out.size))
  clear hb hd hm
  go_wp2_with fail
  skip
  refine (refFmul_any aH kH qH mH aB kB qB mB V8 HDH.out HDB.out (lt33 lH) (lt33 lB)).mono ?_
  rintro e V9 ⟨aI, kI, qI, rfl, hb, hd⟩
  obtain ⟨mI, hm⟩ : ∃ m, fM mH mB = m := ⟨_, rfl⟩
  have HDI : Hid (Dig V9 aI kI qI mI) := by rw [← hm]; exact hd
  have HMI : Hid (fM mH mB = mI) := hm
  have lI : mI < P255 := by rw [← hm]; exact fM_lt _ _
  replace H4 := hid_up (H4.out.later hb)
  replace H5 := hid_up (H5.out.later hb)
  replace H6 := hid_up (H6.out.later hb)
  replace H7 := hid_up (H7.out.later hb)
  replace HDu := hid_up (HDu.out.later hb)
  replace HDx := hid_up (HDx.out.later hb)
  replace HDz := hid_up (HDz.out.later hb)
  replace HDy := hid_up (HDy.out.later hb)
  replace HDv := hid_up (HDv.out.later hb)
  replace HDA := hid_up (HDA.out.later hb)
  replace HDB := hid_up (HDB.out.later hb)
  replace HDC := hid_up (HDC.out.later hb)
  replace HDD := hid_up (HDD.out.later hb)
  replace HDE := hid_up (HDE.out.later hb)
  replace HDF := hid_up (HDF.out.later hb)
  replace HDG := hid_up (HDG.out.later hb)
  replace HDH := hid_up (HDH.out.later hb)
  replace HW := hid_up (HW.out.trans (hb.mono HW.out.size))
  clear hb hd hm
  go_wp2_with fail
  skip
  refine (refFadd_any aG kG qG mG aI kI qI mI V9 HDG.out HDI.out (lt33 lG) (lt33 lI)).mono ?_
  rintro e V10 ⟨aJ, kJ, qJ, rfl, hb, hd⟩
  obtain ⟨mJ, hm⟩ : ∃ m, fA mG mI = m := ⟨_, rfl⟩
  have HDJ : Hid (Dig V10 aJ kJ qJ mJ) := by rw [← hm]; exact hd
  have HMJ : Hid (fA mG mI = mJ) := hm
  have lJ : mJ < P255 := by rw [← hm]; exact fA_lt _ _
  replace H4 := hid_up (H4.out.later hb)
  replace H5 := hid_up (H5.out.later hb)
  replace H6 := hid_up (H6.out.later hb)
  replace H7 := hid_up (H7.out.later hb)
  replace HDu := hid_up (HDu.out.later hb)
  replace HDx := hid_up (HDx.out.later hb)
  replace HDz := hid_up (HDz.out.later hb)
  replace HDy := hid_up (HDy.out.later hb)
  replace HDv := hid_up (HDv.out.later hb)
  replace HDA := hid_up (HDA.out.later hb)
  replace HDB := hid_up (HDB.out.later hb)
  replace HDC := hid_up (HDC.out.later hb)
  replace HDD := hid_up (HDD.out.later hb)
  replace HDE := hid_up (HDE.out.later hb)
  replace HDF := hid_up (HDF.out.later hb)
  replace HDG := hid_up (HDG.out.later hb)
  replace HDH := hid_up (HDH.out.later hb)
  replace HDI := hid_up (HDI.out.later hb)
  replace HW := hid_up (HW.out.trans (hb.mono HW.out.size))
  clear hb hd hm
  go_wp2_with fail
  skip
  refine (refSub_any aG kG qG mG aI kI qI mI V10 HDG.out HDI.out lG lI).mono ?_
  rintro e V11 ⟨aK, kK, qK, rfl, hb, hd⟩
  obtain ⟨mK, hm⟩ : ∃ m, fS mG mI = m := ⟨_, rfl⟩
  have HDK : Hid (Dig V11 aK kK qK mK) := by rw [← hm]; exact hd
  have HMK : Hid (fS mG mI = mK) := hm
  have lK : mK < P255 := by rw [← hm]; exact fS_lt _ _
  replace H4 := hid_up (H4.out.later hb)
  replace H5 := hid_up (H5.out.later hb)
  replace H6 := hid_up (H6.out.later hb)
  replace H7 := hid_up (H7.out.later hb)
  replace HDu := hid_up (HDu.out.later hb)
  replace HDx := hid_up (HDx.out.later hb)
  replace HDz := hid_up (HDz.out.later hb)
  replace HDy := hid_up (HDy.out.later hb)
  replace HDv := hid_up (HDv.out.later hb)
  replace HDA := hid_up (HDA.out.later hb)
  replace HDB := hid_up (HDB.out.later hb)
  replace HDC := hid_up (HDC.out.later hb)
  replace HDD := hid_up (HDD.out.later hb)
  replace HDE := hid_up (HDE.out.later hb)
  replace HDF := hid_up (HDF.out.later hb)
  replace HDG := hid_up (HDG.out.later hb)
  replace HDH := hid_up (HDH.out.later hb)
  replace HDI := hid_up (HDI.out.later hb)
  replace HDJ := hid_up (HDJ.out.later hb)
  replace HW := hid_up (HW.out.trans (hb.mono HW.out.size))
  clear hb hd hm
  go_wp2_with fail
  obtain ⟨WL, hWL⟩ : ∃ W, V11.alloc (.cells #[.int .i64 65, .int .i64 219, .int .i64 1] 3) = W := ⟨_, rfl⟩
  have hbL : Below V11.heap.size V11 WL := by rw [← hWL]; exact (Below.refl _ _).alloc (Nat.le_refl _) _
  have hdL : Dig WL (some ⟨V11.heap.size, 0, none⟩) 3 3 121665 := by
    refine ⟨⟨by rw [dig_121665]; rfl, .inr ⟨_, 0, rfl, fun i hi => ?_⟩⟩, Nat.le_refl _⟩
    rw [dig_121665, ← hWL]
    have h := heap_alloc_new V11 (.cells #[.int .i64 65, .int .i64 219, .int .i64 1] 3)
    rw [cell_of_row _ _ _ _ _ (0, 0) h]
    match i, hi with
    | 0, _ => rfl
    | 1, _ => rfl
    | 2, _ => rfl
  rw [hWL]
  clear hWL
  replace H4 := hid_up (H4.out.later hbL)
  replace H5 := hid_up (H5.out.later hbL)
  replace H6 := hid_up (H6.out.later hbL)
  replace H7 := hid_up (H7.out.later hbL)
  replace HDu := hid_up (HDu.out.later hbL)
  replace HDx := hid_up (HDx.out.later hbL)
  replace HDz := hid_up (HDz.out.later hbL)
  replace HDy := hid_up (HDy.out.later hbL)
  replace HDv := hid_up (HDv.out.later hbL)
  replace HDA := hid_up (HDA.out.later hbL)
  replace HDB := hid_up (HDB.out.later hbL)
  replace HDC := hid_up (HDC.out.later hbL)
  replace HDD := hid_up (HDD.out.later hbL)
  replace HDE := hid_up (HDE.out.later hbL)
  replace HDF := hid_up (HDF.out.later hbL)
  replace HDG := hid_up (HDG.out.later hbL)
  replace HDH := hid_up (HDH.out.later hbL)
  replace HDI := hid_up (HDI.out.later hbL)
  replace HDJ := hid_up (HDJ.out.later hbL)
  replace HDK := hid_up (HDK.out.later hbL)
  replace HW := hid_up (HW.out.trans (hbL.mono HW.out.size))
  have HDL := hid_up hdL
  have lL : 121665 < P255 := by decide
  clear hbL hdL
  generalize V11.heap.size = gL at *
  refine (refFmul_any (some ⟨gL, 0, none⟩) 3 3 121665 aE kE qE mE WL HDL.out HDE.out (lt33 lL) (lt33 lE)).mono ?_
  rintro e V12 ⟨aM, kM, qM, rfl, hb, hd⟩
  obtain ⟨mM, hm⟩ : ∃ m, fM 121665 mE = m := ⟨_, rfl⟩
  have HDM : Hid (Dig V12 aM kM qM mM) := by rw [← hm]; exact hd
  have HMM : Hid (fM 121665 mE = mM) := hm
  have lM : mM < P255 := by rw [← hm]; exact fM_lt _ _
  replace H4 := hid_up (H4.out.later hb)
  replace H5 := hid_up (H5.out.later hb)
  replace H6 := hid_up (H6.out.later hb)
  replace H7 := hid_up (H7.out.later hb)
  replace HDu := hid_up (HDu.out.later hb)
  replace HDx := hid_up (HDx.out.later hb)
  replace HDz := hid_up (HDz.out.later hb)
  replace HDy := hid_up (HDy.out.later hb)
  replace HDv := hid_up (HDv.out.later hb)
  replace HDA := hid_up (HDA.out.later hb)
  replace HDB := hid_up (HDB.out.later hb)
  replace HDC := hid_up (HDC.out.later hb)
  replace HDD := hid_up (HDD.out.later hb)
  replace HDE := hid_up (HDE.out.later hb)
  replace HDF := hid_up (HDF.out.later hb)
  replace HDG := hid_up (HDG.out.later hb)
  replace HDH := hid_up (HDH.out.later hb)
  replace HDI := hid_up (HDI.out.later hb)
  replace HDJ := hid_up (HDJ.out.later hb)
  replace HDK := hid_up (HDK.out.later hb)
  replace HDL := hid_up (HDL.out.later hb)
  replace HW := hid_up (HW.out.trans (hb.mono HW.out.size))
  clear hb hd hm
  go_wp2_with fail
  skip
  refine (refFadd_any aC kC qC mC aM kM qM mM V12 HDC.out HDM.out (lt33 lC) (lt33 lM)).mono ?_
  rintro e V13 ⟨aN, kN, qN, rfl, hb, hd⟩
  obtain ⟨mN, hm⟩ : ∃ m, fA mC mM = m := ⟨_, rfl⟩
  have HDN : Hid (Dig V13 aN kN qN mN) := by rw [← hm]; exact hd
  have HMN : Hid (fA mC mM = mN) := hm
  have lN : mN < P255 := by rw [← hm]; exact fA_lt _ _
  replace H4 := hid_up (H4.out.later hb)
  replace H5 := hid_up (H5.out.later hb)
  replace H6 := hid_up (H6.out.later hb)
  replace H7 := hid_up (H7.out.later hb)
  replace HDu := hid_up (HDu.out.later hb)
  replace HDx := hid_up (HDx.out.later hb)
  replace HDz := hid_up (HDz.out.later hb)
  replace HDy := hid_up (HDy.out.later hb)
  replace HDv := hid_up (HDv.out.later hb)
  replace HDA := hid_up (HDA.out.later hb)
  replace HDB := hid_up (HDB.out.later hb)
  replace HDC := hid_up (HDC.out.later hb)
  replace HDD := hid_up (HDD.out.later hb)
  replace HDE := hid_up (HDE.out.later hb)
  replace HDF := hid_up (HDF.out.later hb)
  replace HDG := hid_up (HDG.out.later hb)
  replace HDH := hid_up (HDH.out.later hb)
  replace HDI := hid_up (HDI.out.later hb)
  replace HDJ := hid_up (HDJ.out.later hb)
  replace HDK := hid_up (HDK.out.later hb)
  replace HDL := hid_up (HDL.out.later hb)
  replace HDM := hid_up (HDM.out.later hb)
  replace HW := hid_up (HW.out.trans (hb.mono HW.out.size))
  clear hb hd hm
  go_wp2_with fail
  skip
  refine (refFmul_any aC kC qC mC aD kD qD mD V13 HDC.out HDD.out (lt33 lC) (lt33 lD)).mono ?_
  rintro e V14 ⟨aP, kP, qP, rfl, hb, hd⟩
  obtain ⟨mP, hm⟩ : ∃ m, fM mC mD = m := ⟨_, rfl⟩
  have HDP : Hid (Dig V14 aP kP qP mP) := by rw [← hm]; exact hd
  have HMP : Hid (fM mC mD = mP) := hm
  have lP : mP < P255 := by rw [← hm]; exact fM_lt _ _
  replace H4 := hid_up (H4.out.later hb)
  replace H5 := hid_up (H5.out.later hb)
  replace H6 := hid_up (H6.out.later hb)
  replace H7 := hid_up (H7.out.later hb)
  replace HDu := hid_up (HDu.out.later hb)
  replace HDx := hid_up (HDx.out.later hb)
  replace HDz := hid_up (HDz.out.later hb)
  replace HDy := hid_up (HDy.out.later hb)
  replace HDv := hid_up (HDv.out.later hb)
  replace HDA := hid_up (HDA.out.later hb)
  replace HDB := hid_up (HDB.out.later hb)
  replace HDC := hid_up (HDC.out.later hb)
  replace HDD := hid_up (HDD.out.later hb)
  replace HDE := hid_up (HDE.out.later hb)
  replace HDF := hid_up (HDF.out.later hb)
  replace HDG := hid_up (HDG.out.later hb)
  replace HDH := hid_up (HDH.out.later hb)
  replace HDI := hid_up (HDI.out.later hb)
  replace HDJ := hid_up (HDJ.out.later hb)
  replace HDK := hid_up (HDK.out.later hb)
  replace HDL := hid_up (HDL.out.later hb)
  replace HDM := hid_up (HDM.out.later hb)
  replace HDN := hid_up (HDN.out.later hb)
  replace HW := hid_up (HW.out.trans (hb.mono HW.out.size))
  clear hb hd hm
  go_wp2_with fail
  skip
  refine (refFmul_any aE kE qE mE aN kN qN mN V14 HDE.out HDN.out (lt33 lE) (lt33 lN)).mono ?_
  rintro e V15 ⟨aQ, kQ, qQ, rfl, hb, hd⟩
  obtain ⟨mQ, hm⟩ : ∃ m, fM mE mN = m := ⟨_, rfl⟩
  have HDQ : Hid (Dig V15 aQ kQ qQ mQ) := by rw [← hm]; exact hd
  have HMQ : Hid (fM mE mN = mQ) := hm
  have lQ : mQ < P255 := by rw [← hm]; exact fM_lt _ _
  replace H4 := hid_up (H4.out.later hb)
  replace H5 := hid_up (H5.out.later hb)
  replace H6 := hid_up (H6.out.later hb)
  replace H7 := hid_up (H7.out.later hb)
  replace HDu := hid_up (HDu.out.later hb)
  replace HDx := hid_up (HDx.out.later hb)
  replace HDz := hid_up (HDz.out.later hb)
  replace HDy := hid_up (HDy.out.later hb)
  replace HDv := hid_up (HDv.out.later hb)
  replace HDA := hid_up (HDA.out.later hb)
  replace HDB := hid_up (HDB.out.later hb)
  replace HDC := hid_up (HDC.out.later hb)
  replace HDD := hid_up (HDD.out.later hb)
  replace HDE := hid_up (HDE.out.later hb)
  replace HDF := hid_up (HDF.out.later hb)
  replace HDG := hid_up (HDG.out.later hb)
  replace HDH := hid_up (HDH.out.later hb)
  replace HDI := hid_up (HDI.out.later hb)
  replace HDJ := hid_up (HDJ.out.later hb)
  replace HDK := hid_up (HDK.out.later hb)
  replace HDL := hid_up (HDL.out.later hb)
  replace HDM := hid_up (HDM.out.later hb)
  replace HDN := hid_up (HDN.out.later hb)
  replace HDP := hid_up (HDP.out.later hb)
  replace HW := hid_up (HW.out.trans (hb.mono HW.out.size))
  clear hb hd hm
  go_wp2_with fail
  skip
  refine (refFmul_any aJ kJ qJ mJ aJ kJ qJ mJ V15 HDJ.out HDJ.out (lt33 lJ) (lt33 lJ)).mono ?_
  rintro e V16 ⟨aR, kR, qR, rfl, hb, hd⟩
  obtain ⟨mR, hm⟩ : ∃ m, fM mJ mJ = m := ⟨_, rfl⟩
  have HDR : Hid (Dig V16 aR kR qR mR) := by rw [← hm]; exact hd
  have HMR : Hid (fM mJ mJ = mR) := hm
  have lR : mR < P255 := by rw [← hm]; exact fM_lt _ _
  replace H4 := hid_up (H4.out.later hb)
  replace H5 := hid_up (H5.out.later hb)
  replace H6 := hid_up (H6.out.later hb)
  replace H7 := hid_up (H7.out.later hb)
  replace HDu := hid_up (HDu.out.later hb)
  replace HDx := hid_up (HDx.out.later hb)
  replace HDz := hid_up (HDz.out.later hb)
  replace HDy := hid_up (HDy.out.later hb)
  replace HDv := hid_up (HDv.out.later hb)
  replace HDA := hid_up (HDA.out.later hb)
  replace HDB := hid_up (HDB.out.later hb)
  replace HDC := hid_up (HDC.out.later hb)
  replace HDD := hid_up (HDD.out.later hb)
  replace HDE := hid_up (HDE.out.later hb)
  replace HDF := hid_up (HDF.out.later hb)
  replace HDG := hid_up (HDG.out.later hb)
  replace HDH := hid_up (HDH.out.later hb)
  replace HDI := hid_up (HDI.out.later hb)
  replace HDJ := hid_up (HDJ.out.later hb)
  replace HDK := hid_up (HDK.out.later hb)
  replace HDL := hid_up (HDL.out.later hb)
  replace HDM := hid_up (HDM.out.later hb)
  replace HDN := hid_up (HDN.out.later hb)
  replace HDP := hid_up (HDP.out.later hb)
  replace HDQ := hid_up (HDQ.out.later hb)
  replace HW := hid_up (HW.out.trans (hb.mono HW.out.size))
  clear hb hd hm
  go_wp2_with fail
  skip
  refine (refFmul_any aK kK qK mK aK kK qK mK V16 HDK.out HDK.out (lt33 lK) (lt33 lK)).mono ?_
  rintro e V17 ⟨aS, kS, qS, rfl, hb, hd⟩
  obtain ⟨mS, hm⟩ : ∃ m, fM mK mK = m := ⟨_, rfl⟩
  have HDS : Hid (Dig V17 aS kS qS mS) := by rw [← hm]; exact hd
  have HMS : Hid (fM mK mK = mS) := hm
  have lS : mS < P255 := by rw [← hm]; exact fM_lt _ _
  replace H4 := hid_up (H4.out.later hb)
  replace H5 := hid_up (H5.out.later hb)
  replace H6 := hid_up (H6.out.later hb)
  replace H7 := hid_up (H7.out.later hb)
  replace HDu := hid_up (HDu.out.later hb)
  replace HDx := hid_up (HDx.out.later hb)
  replace HDz := hid_up (HDz.out.later hb)
  replace HDy := hid_up (HDy.out.later hb)
  replace HDv := hid_up (HDv.out.later hb)
  replace HDA := hid_up (HDA.out.later hb)
  replace HDB := hid_up (HDB.out.later hb)
  replace HDC := hid_up (HDC.out.later hb)
  replace HDD := hid_up (HDD.out.later hb)
  replace HDE := hid_up (HDE.out.later hb)
  replace HDF := hid_up (HDF.out.later hb)
  replace HDG := hid_up (HDG.out.later hb)
  replace HDH := hid_up (HDH.out.later hb)
  replace HDI := hid_up (HDI.out.later hb)
  replace HDJ := hid_up (HDJ.out.later hb)
  replace HDK := hid_up (HDK.out.later hb)
  replace HDL := hid_up (HDL.out.later hb)
  replace HDM := hid_up (HDM.out.later hb)
  replace HDN := hid_up (HDN.out.later hb)
  replace HDP := hid_up (HDP.out.later hb)
  replace HDQ := hid_up (HDQ.out.later hb)
  replace HDR := hid_up (HDR.out.later hb)
  replace HW := hid_up (HW.out.trans (hb.mono HW.out.size))
  clear hb hd hm
  go_wp2_with fail
  skip
  refine (refFmul_any ua un uq u aS kS qS mS V17 HDu.out HDS.out (lt33 lu) (lt33 lS)).mono ?_
  rintro e V18 ⟨aT, kT, qT, rfl, hb, hd⟩
  obtain ⟨mT, hm⟩ : ∃ m, fM u mS = m := ⟨_, rfl⟩
  have HDT : Hid (Dig V18 aT kT qT mT) := by rw [← hm]; exact hd
  have HMT : Hid (fM u mS = mT) := hm
  have lT : mT < P255 := by rw [← hm]; exact fM_lt _ _
  replace H4 := hid_up (H4.out.later hb)
  replace H5 := hid_up (H5.out.later hb)
  replace H6 := hid_up (H6.out.later hb)
  replace H7 := hid_up (H7.out.later hb)
  replace HDu := hid_up (HDu.out.later hb)
  replace HDx := hid_up (HDx.out.later hb)
  replace HDz := hid_up (HDz.out.later hb)
  replace HDy := hid_up (HDy.out.later hb)
  replace HDv := hid_up (HDv.out.later hb)
  replace HDA := hid_up (HDA.out.later hb)
  replace HDB := hid_up (HDB.out.later hb)
  replace HDC := hid_up (HDC.out.later hb)
  replace HDD := hid_up (HDD.out.later hb)
  replace HDE := hid_up (HDE.out.later hb)
  replace HDF := hid_up (HDF.out.later hb)
  replace HDG := hid_up (HDG.out.later hb)
  replace HDH := hid_up (HDH.out.later hb)
  replace HDI := hid_up (HDI.out.later hb)
  replace HDJ := hid_up (HDJ.out.later hb)
  replace HDK := hid_up (HDK.out.later hb)
  replace HDL := hid_up (HDL.out.later hb)
  replace HDM := hid_up (HDM.out.later hb)
  replace HDN := hid_up (HDN.out.later hb)
  replace HDP := hid_up (HDP.out.later hb)
  replace HDQ := hid_up (HDQ.out.later hb)
  replace HDR := hid_up (HDR.out.later hb)
  replace HDS := hid_up (HDS.out.later hb)
  replace HW := hid_up (HW.out.trans (hb.mono HW.out.size))
  clear hb hd hm
  have hst1 := store_row V18 (w.heap.size + 1 + 1) _ _ [.slice aP kP qP, .slice aQ kQ qQ] H6.out rfl (by simp [Value.oneCell'])
  have hr1 : Pnt (V18.setRow (w.heap.size + 1 + 1) #[.slice aP kP qP, .slice aQ kQ qQ]) (w.heap.size + 1 + 1) (.slice aP kP qP) (.slice aQ kQ qQ) := setRow_heap V18 _ _ _ _ _ H6.out
  have hr7 : Pnt (V18.setRow (w.heap.size + 1 + 1) #[.slice aP kP qP, .slice aQ kQ qQ]) (w.heap.size + 1 + 1 + 1) (.slice none 0 0) (.slice none 0 0) := by
    unfold Pnt
    rw [setRow_other _ _ _ _ (by omega)]
    exact H7.out
  have hbx : Below w.heap.size w (V18.setRow (w.heap.size + 1 + 1) #[.slice aP kP qP, .slice aQ kQ qQ]) := below_setRow HW.out (by omega) _
  have hkp : ∀ v ∈ [Value.slice none 0 0, .slice none 0 0], ∀ d, v ≠ .int .i64 d := by simp
  have dP := digPut HDP.out H6.out hkp #[.slice aP kP qP, .slice aQ kQ qQ]
  have dQ := digPut HDQ.out H6.out hkp #[.slice aP kP qP, .slice aQ kQ qQ]
  have dR := digPut HDR.out H6.out hkp #[.slice aP kP qP, .slice aQ kQ qQ]
  have dT := digPut HDT.out H6.out hkp #[.slice aP kP qP, .slice aQ kQ qQ]
  obtain ⟨X1, hX1⟩ : ∃ X, V18.setRow (w.heap.size + 1 + 1) #[.slice aP kP qP, .slice aQ kQ qQ] = X := ⟨_, rfl⟩
  rw [hX1] at hr1 hr7 hbx dP dQ dR dT
  rw [hX1] at hst1
  have hst2 := store_row X1 (w.heap.size + 1 + 1 + 1) _ _ [.slice aR kR qR, .slice aT kT qT] hr7 rfl (by simp [Value.oneCell'])
  have H9 : Hid (Pnt (X1.setRow (w.heap.size + 1 + 1 + 1) #[.slice aR kR qR, .slice aT kT qT]) (w.heap.size + 1 + 1 + 1) (.slice aR kR qR) (.slice aT kT qT)) := setRow_heap X1 _ _ _ _ _ hr7
  have H8 : Hid (Pnt (X1.setRow (w.heap.size + 1 + 1 + 1) #[.slice aR kR qR, .slice aT kT qT]) (w.heap.size + 1 + 1) (.slice aP kP qP) (.slice aQ kQ qQ)) := by
    show Pnt _ _ _ _
    unfold Pnt
    rw [setRow_other _ _ _ _ (by omega)]
    exact hr1
  have HB : Hid (Below w.heap.size w (X1.setRow (w.heap.size + 1 + 1 + 1) #[.slice aR kR qR, .slice aT kT qT])) := below_setRow hbx (by omega) _
  have GP := hid_up (digPut dP hr7 hkp #[.slice aR kR qR, .slice aT kT qT])
  have GQ := hid_up (digPut dQ hr7 hkp #[.slice aR kR qR, .slice aT kT qT])
  have GR := hid_up (digPut dR hr7 hkp #[.slice aR kR qR, .slice aT kT qT])
  have GT := hid_up (digPut dT hr7 hkp #[.slice aR kR qR, .slice aT kT qT])
  obtain ⟨X2, hX2⟩ : ∃ X, X1.setRow (w.heap.size + 1 + 1 + 1) #[.slice aR kR qR, .slice aT kT qT] = X := ⟨_, rfl⟩
  rw [hX2] at hst2 H9 H8 HB GP GQ GR GT
  have HR7 := hid_up hr7
  have HX1 := hid_up hX1
  have HX2 := hid_up hX2
  have hin1 : Hid ((Tryd.prog.info? 56).map (·.size) = some (#[.slice aP kP qP, .slice aQ kQ qQ] : Array Value).size) := by show _ = _; kernel_rfl
  have hin2 : Hid ((Tryd.prog.info? 56).map (·.size) = some (#[.slice aR kR qR, .slice aT kT qT] : Array Value).size) := by show _ = _; kernel_rfl
  have hal1 : Hid ((#[.slice aP kP qP, .slice aQ kQ qQ] : Array Value).all (·.oneCell') = true) := by show _ = _; simp [Value.oneCell']
  have hal2 : Hid ((#[.slice aR kR qR, .slice aT kT qT] : Array Value).all (·.oneCell') = true) := by show _ = _; simp [Value.oneCell']
  clear hr1 hr7 hbx dP dQ dR dT hX1 hX2 hkp hst1 hst2
  go_wp2_with (first | (refine wpList_store_row rfl 56 _ _ rfl (w.heap.size + 1 + 1) #[.slice aP kP qP, .slice aQ kQ qQ] rfl rfl 56 _ H6.out hin1.out rfl hal1.out ?_; rw [HX1.out]) | (refine wpList_store_row rfl 56 _ _ rfl (w.heap.size + 1 + 1 + 1) #[.slice aR kR qR, .slice aT kT qT] rfl rfl 56 _ HR7.out hin2.out rfl hal2.out ?_; rw [HX2.out]) | fail)
  (try simp only [Exit.inBlock, Exit.then])
  refine bodyPost_ret (results_two rfl _ _ (w.heap.size + 1 + 1) (w.heap.size + 1 + 1 + 1) 56 _ _ _ rfl rfl H8.out H9.out Tryd.underlying56 rfl (by kernel_rfl) (by kernel_rfl)) rfl ?_
  have e1 : nX2 x2 z2 = mP := by unfold nX2; rw [HMA.out, HMB.out, HMC.out, HMD.out, HMP.out]
  have e0 : nE x2 z2 = mE := by unfold nE; rw [HMA.out, HMB.out, HMC.out, HMD.out, HME.out]
  have e2 : nZ2 x2 z2 = mQ := by unfold nZ2; rw [e0, HMA.out, HMC.out, HMM.out, HMN.out, HMQ.out]
  have e3 : nX3 x2 z2 x3 z3 = mR := by unfold nX3 nP; rw [HMA.out, HMB.out, HMF.out, HMH.out, HMG.out, HMI.out, HMJ.out, HMR.out]
  have e4 : nZ3 u x2 z2 x3 z3 = mT := by unfold nZ3 nM; rw [HMA.out, HMB.out, HMF.out, HMH.out, HMG.out, HMI.out, HMK.out, HMS.out, HMT.out]
  rw [e1, e2, e3, e4]
  exact ⟨_, _, _, _, _, _, _, _, _, _, _, _, rfl, HB.out, GP.out, GQ.out, GR.out, GT.out⟩
end Go.Proofs.YtmdoojfcgbokjaaDoor
