/- The program's attribute: what each kind tells (stage 12; written by tools/mkstuhear.py). -/
import Derived.Test.YtejbhjcopldekaaStuM
import Derived.Test.YtejbhjcopldekaaWalkD
namespace Go.Proofs.Ytejbhjcopldekaa
set_option linter.unusedVariables false
set_option maxRecDepth 100000
open Go.RowKit

/-- How attribute ends. -/
def AttrEnd (w0 : World) (r g : Nat) (l : List UInt8) (x : Option SM) (e : Ending) (w' : World) : Prop :=
  match x with
  | none => e = span 2 ∧ Below w0.heap.size w0 w'
  | some m' => (∃ v, e = .returned v) ∧ ∃ ua' uc', Rd w0 r l w' ∧ Lm w0 g m' ua' uc' w'
theorem getV_drop (b : List UInt8) (p n : Nat) : getV (b.drop p) true 0 n = getV b true p n := by
  unfold getV cutB
  simp
theorem getV_one (b : List UInt8) (p : Nat) (h : p < b.length) : getV b true p 1 = (at8 b p).toNat := by
  have e : cutB b p 1 = [b[p]] := by
    unfold cutB
    rw [List.drop_eq_getElem_cons h]
    rfl
  unfold getV
  rw [e, at8_get b p h]
  simp [valB, leN]
theorem Rd.away {w0 W : World} {r g i : Nat} {l : List UInt8} (h : Rd w0 r l W) (hne : r ≠ g) (hg : w0.heap.size ≤ g) (v : Value) : Rd w0 r l (W.setCell ⟨g, i, none⟩ v) :=
  h.kept (heap_setCell_other W ⟨g, i, none⟩ r v hne) (h.bel.setCell (p := ⟨g, i, none⟩) hg v)
theorem Rd.but {w0 W W' : World} {r v : Nat} {l : List UInt8} (h : Rd w0 r l W) (hG : But v W W') (hne : r ≠ v) (hv : w0.heap.size ≤ v) : Rd w0 r l W' :=
  h.kept (hG.block r h.lt (fun e => by cases e; exact hne rfl)) (h.bel.grown hG h.bel.size (fun k e => by cases e; exact hv))
theorem sTwos_succ (d : List UInt8) (k : Nat) : sTwos d (k + 1) = sTwos d k ++ [((sTwo d (2 * k) : Nat) : Int)] := by
  unfold sTwos
  rw [List.range_succ, List.map_append]
  rfl
set_option maxHeartbeats 2000000 in
theorem attr_crc (w0 : World) (r g p : Nat) (b : List UInt8) (m : SM) (ua : Option Addr) (uc : Nat) (w : World) (x : Option SM) (hR : Rd w0 r (b.drop p) w) (hL : Lm w0 g m ua uc w) (hrg : r < g) (hb : b.length ≤ 1000) (hul : m.unk.length ≤ 2000)
    (hlen : p + 4 + (sTwo b (p + 2) + 3) / 4 * 4 ≤ b.length) (hm : m.hstep (sTwo b p, cutB b (p + 4) (sTwo b (p + 2))) = x) (hk : sTwo b p = 32808) :
    Calls Try.prog 50 #[.pointer (some ⟨r, 0, none⟩), .pointer (some ⟨g, 0, none⟩)] w fun e w' => AttrEnd w0 r g (b.drop (p + 4 + (sTwo b (p + 2) + 3) / 4 * 4)) x e w' := by
  have hgw := hL.gw
  have HR := uhid hR
  have HL := uhid hL
  obtain ⟨kd, hkd⟩ : ∃ kd, sTwo b p = kd := ⟨_, rfl⟩
  obtain ⟨sz, hsz⟩ : ∃ sz, sTwo b (p + 2) = sz := ⟨_, rfl⟩
  have hkd9 : kd < 65536 := by rw [← hkd]; exact sTwo_lt9 b p
  have hsz9 : sz < 65536 := by rw [← hsz]; exact sTwo_lt9 b (p + 2)
  obtain ⟨fl, hfl⟩ : ∃ fl, (4 - sz % 4) % 4 = fl := ⟨_, rfl⟩
  rw [hsz] at hlen
  rw [hkd, hsz] at hm
  rw [hsz]
  obtain ⟨D, hD⟩ : ∃ D, (b.drop (p + 2 + 2)).take sz = D := ⟨_, rfl⟩
  have hDl : D.length = sz := by rw [← hD, List.length_take, List.length_drop]; omega
  have hm2 : m.hstep (kd, D) = x := by rw [← hD]; exact hm
  have HM := uhid hm2
  obtain ⟨q, hq⟩ : ∃ q, p + 4 + (sz + 3) / 4 * 4 = q := ⟨_, rfl⟩
  rw [hq]
  clear hR hL hm hm2
  have hk2 : kd = 32808 := hkd.symm.trans hk
  subst hk2
  go_enter Try.func50, Try.ntmps50
  go_wp2_with fail
  refine (rnumber_yes w0 r 2 (b.drop p) w HR.out (by decide) (by decide) (by rw [List.length_drop]; omega)).mono ?_
  rintro e w1 ⟨rfl, hR1, hG1⟩
  rw [two_drop, hkd]
  rw [List.drop_drop] at hR1
  have HR1 := uhid hR1
  have HL1 := uhid (HL.out.low hG1 hrg HR.out.lo)
  have HG1 := uhid hG1
  clear hR1 hG1
  go_wp2_with fail
  refine (rnumber_yes w0 r 2 (b.drop (p + 2)) w1 HR1.out (by decide) (by decide) (by rw [List.length_drop]; omega)).mono ?_
  rintro e w2 ⟨rfl, hR2, hG2⟩
  rw [two_drop, hsz]
  rw [List.drop_drop] at hR2
  have HR2 := uhid hR2
  have HL2 := uhid (HL1.out.low hG2 hrg HR.out.lo)
  clear hR2 hG2 HR1 HL1
  go_wp2_with fail
  refine (rbytes_yes w0 r sz (b.drop (p + 2 + 2)) w2 HR2.out (by rw [List.length_drop]; omega)).mono ?_
  rintro e w3 ⟨a3, c3, rfl, hP3, hR3, hG3⟩
  rw [List.drop_drop] at hR3
  have HP3 := uhid hP3
  have HR3 := uhid hR3
  have HL3 := uhid (HL2.out.low hG3 hrg HR.out.lo)
  clear hP3 hR3 hG3 HR2 HL2
  have hb3 : Below w3.heap.size w3 (w3.alloc (.cells #[.slice a3 sz c3] 79)) := (Below.refl _ _).alloc (Nat.le_refl _) _
  have hrow3 := heap_alloc_new w3 (.cells #[.slice a3 sz c3] 79)
  go_wp2_with fail
  refine (fill_any sz _ (by omega)).mono ?_
  rintro e w4 ⟨rfl, rfl⟩
  rw [hfl]
  obtain ⟨W4, hW4⟩ : ∃ W4, w3.alloc (.cells #[.slice a3 sz c3] 79) = W4 := ⟨_, rfl⟩
  rw [hW4] at hb3 hrow3
  rw [hW4]
  obtain ⟨v, hv⟩ : ∃ v, w3.heap.size = v := ⟨_, rfl⟩
  rw [hv] at hrow3
  rw [hv]
  have hgv : g < v := by rw [← hv]; exact HL3.out.lt
  have huv : ∀ j, blockOf ua = some j → j < v := fun j hj => by rw [← hv]; exact HL3.out.seg.lt j hj
  have HR4 := uhid (HR3.out.below hb3)
  have HL4 := uhid (HL3.out.later hb3)
  have hdl : ((b.drop (p + 2 + 2)).take sz).length = sz := by rw [List.length_take, List.length_drop]; omega
  have HV4 : Hid (Rd w0 v ((b.drop (p + 2 + 2)).take sz) W4) := uhid ⟨⟨a3, c3, by rw [hdl]; exact hrow3, by rw [hdl]; exact HP3.out⟩, HR4.out.bel, by have := HR.out.lo; omega⟩
  clear HR3 HL3 HP3 hb3 hrow3 hW4 hv hdl
  go_wp2_with fail
  refine (rbytes_yes w0 r fl (b.drop (p + 2 + 2 + sz)) W4 HR4.out (by rw [List.length_drop]; omega)).mono ?_
  rintro e w5 ⟨a5, c5, rfl, hP5, hR5, hG5⟩
  rw [List.drop_drop] at hR5
  have hpe : p + 2 + 2 + sz + fl = p + 4 + (sz + 3) / 4 * 4 := by omega
  rw [hpe, hq] at hR5
  have HR5 := uhid hR5
  have HL5 := uhid (HL4.out.low hG5 hrg HR.out.lo)
  have HV5 := uhid (HV4.out.kept (hG5.block v HV4.out.lt (fun e => by cases e; omega)) HR5.out.bel)
  have HUV := uhid huv
  clear hP5 hR5 hG5 HR4 HL4 HV4 hpe huv
  rw [hD] at HV5
  have hlv : w0.heap.size ≤ v := HV5.out.lo
  have hrv : r ≠ v := by omega
  have hvg : v ≠ g := by omega
  have hrgn : r ≠ g := by omega
  clear hD HR
  have hx : x = some m := by rw [← HM.out]; unfold SM.hstep; simp
  subst hx
  have HR5b := HR5
  clear HM
  go_wp2_with fail
  refine bodyPost_end (results_none rfl _ _ _) rfl ?_
  exact ⟨⟨_, rfl⟩, ua, uc, HR5.out, HL5.out⟩
set_option maxHeartbeats 2000000 in
theorem attr_soft (w0 : World) (r g p : Nat) (b : List UInt8) (m : SM) (ua : Option Addr) (uc : Nat) (w : World) (x : Option SM) (hR : Rd w0 r (b.drop p) w) (hL : Lm w0 g m ua uc w) (hrg : r < g) (hb : b.length ≤ 1000) (hul : m.unk.length ≤ 2000)
    (hlen : p + 4 + (sTwo b (p + 2) + 3) / 4 * 4 ≤ b.length) (hm : m.hstep (sTwo b p, cutB b (p + 4) (sTwo b (p + 2))) = x) (hk : sTwo b p = 32802) :
    Calls Try.prog 50 #[.pointer (some ⟨r, 0, none⟩), .pointer (some ⟨g, 0, none⟩)] w fun e w' => AttrEnd w0 r g (b.drop (p + 4 + (sTwo b (p + 2) + 3) / 4 * 4)) x e w' := by
  have hgw := hL.gw
  have HR := uhid hR
  have HL := uhid hL
  obtain ⟨kd, hkd⟩ : ∃ kd, sTwo b p = kd := ⟨_, rfl⟩
  obtain ⟨sz, hsz⟩ : ∃ sz, sTwo b (p + 2) = sz := ⟨_, rfl⟩
  have hkd9 : kd < 65536 := by rw [← hkd]; exact sTwo_lt9 b p
  have hsz9 : sz < 65536 := by rw [← hsz]; exact sTwo_lt9 b (p + 2)
  obtain ⟨fl, hfl⟩ : ∃ fl, (4 - sz % 4) % 4 = fl := ⟨_, rfl⟩
  rw [hsz] at hlen
  rw [hkd, hsz] at hm
  rw [hsz]
  obtain ⟨D, hD⟩ : ∃ D, (b.drop (p + 2 + 2)).take sz = D := ⟨_, rfl⟩
  have hDl : D.length = sz := by rw [← hD, List.length_take, List.length_drop]; omega
  have hm2 : m.hstep (kd, D) = x := by rw [← hD]; exact hm
  have HM := uhid hm2
  obtain ⟨q, hq⟩ : ∃ q, p + 4 + (sz + 3) / 4 * 4 = q := ⟨_, rfl⟩
  rw [hq]
  clear hR hL hm hm2
  have hk2 : kd = 32802 := hkd.symm.trans hk
  subst hk2
  go_enter Try.func50, Try.ntmps50
  go_wp2_with fail
  refine (rnumber_yes w0 r 2 (b.drop p) w HR.out (by decide) (by decide) (by rw [List.length_drop]; omega)).mono ?_
  rintro e w1 ⟨rfl, hR1, hG1⟩
  rw [two_drop, hkd]
  rw [List.drop_drop] at hR1
  have HR1 := uhid hR1
  have HL1 := uhid (HL.out.low hG1 hrg HR.out.lo)
  have HG1 := uhid hG1
  clear hR1 hG1
  go_wp2_with fail
  refine (rnumber_yes w0 r 2 (b.drop (p + 2)) w1 HR1.out (by decide) (by decide) (by rw [List.length_drop]; omega)).mono ?_
  rintro e w2 ⟨rfl, hR2, hG2⟩
  rw [two_drop, hsz]
  rw [List.drop_drop] at hR2
  have HR2 := uhid hR2
  have HL2 := uhid (HL1.out.low hG2 hrg HR.out.lo)
  clear hR2 hG2 HR1 HL1
  go_wp2_with fail
  refine (rbytes_yes w0 r sz (b.drop (p + 2 + 2)) w2 HR2.out (by rw [List.length_drop]; omega)).mono ?_
  rintro e w3 ⟨a3, c3, rfl, hP3, hR3, hG3⟩
  rw [List.drop_drop] at hR3
  have HP3 := uhid hP3
  have HR3 := uhid hR3
  have HL3 := uhid (HL2.out.low hG3 hrg HR.out.lo)
  clear hP3 hR3 hG3 HR2 HL2
  have hb3 : Below w3.heap.size w3 (w3.alloc (.cells #[.slice a3 sz c3] 79)) := (Below.refl _ _).alloc (Nat.le_refl _) _
  have hrow3 := heap_alloc_new w3 (.cells #[.slice a3 sz c3] 79)
  go_wp2_with fail
  refine (fill_any sz _ (by omega)).mono ?_
  rintro e w4 ⟨rfl, rfl⟩
  rw [hfl]
  obtain ⟨W4, hW4⟩ : ∃ W4, w3.alloc (.cells #[.slice a3 sz c3] 79) = W4 := ⟨_, rfl⟩
  rw [hW4] at hb3 hrow3
  rw [hW4]
  obtain ⟨v, hv⟩ : ∃ v, w3.heap.size = v := ⟨_, rfl⟩
  rw [hv] at hrow3
  rw [hv]
  have hgv : g < v := by rw [← hv]; exact HL3.out.lt
  have huv : ∀ j, blockOf ua = some j → j < v := fun j hj => by rw [← hv]; exact HL3.out.seg.lt j hj
  have HR4 := uhid (HR3.out.below hb3)
  have HL4 := uhid (HL3.out.later hb3)
  have hdl : ((b.drop (p + 2 + 2)).take sz).length = sz := by rw [List.length_take, List.length_drop]; omega
  have HV4 : Hid (Rd w0 v ((b.drop (p + 2 + 2)).take sz) W4) := uhid ⟨⟨a3, c3, by rw [hdl]; exact hrow3, by rw [hdl]; exact HP3.out⟩, HR4.out.bel, by have := HR.out.lo; omega⟩
  clear HR3 HL3 HP3 hb3 hrow3 hW4 hv hdl
  go_wp2_with fail
  refine (rbytes_yes w0 r fl (b.drop (p + 2 + 2 + sz)) W4 HR4.out (by rw [List.length_drop]; omega)).mono ?_
  rintro e w5 ⟨a5, c5, rfl, hP5, hR5, hG5⟩
  rw [List.drop_drop] at hR5
  have hpe : p + 2 + 2 + sz + fl = p + 4 + (sz + 3) / 4 * 4 := by omega
  rw [hpe, hq] at hR5
  have HR5 := uhid hR5
  have HL5 := uhid (HL4.out.low hG5 hrg HR.out.lo)
  have HV5 := uhid (HV4.out.kept (hG5.block v HV4.out.lt (fun e => by cases e; omega)) HR5.out.bel)
  have HUV := uhid huv
  clear hP5 hR5 hG5 HR4 HL4 HV4 hpe huv
  rw [hD] at HV5
  have hlv : w0.heap.size ≤ v := HV5.out.lo
  have hrv : r ≠ v := by omega
  have hvg : v ≠ g := by omega
  have hrgn : r ≠ g := by omega
  clear hD HR
  have hx : x = some { m with soft := D } := by rw [← HM.out]; unfold SM.hstep; simp
  subst hx
  clear HM
  obtain ⟨a6, c6, hrow6, hP6⟩ := HV5.out.row
  have q6 : w5.cell? ⟨v, 0, none⟩ = some (.slice a6 D.length c6) := by rw [cell_of_row w5 v 0 _ _ (0, 0) hrow6]; rfl
  have hcv := conv_bytes w5 a6 D.length c6 D (hP6.byt.later HV5.out.bel)
  rw [hDl] at q6 hcv
  have q15 : w5.cell? ⟨g, 15, none⟩ = some (.string (S m.soft)) := HL5.out.cell 15 _ rfl
  have f15 := HL5.out.frozen 15
  have HL6 : Hid (Lm w0 g { m with soft := D } ua uc (w5.setCell ⟨g, 15, none⟩ (.string (S D)))) := uhid (HL5.out.upd 15 _ { m with soft := D } rfl rfl)
  have HR6 : Hid (Rd w0 r (b.drop q) (w5.setCell ⟨g, 15, none⟩ (.string (S D)))) := uhid (HR5.out.away hrgn hgw _)
  clear hrow6 hP6 HV5 HL5 HR5
  go_wp2_with fail
  refine bodyPost_end (results_none rfl _ _ _) rfl ?_
  exact ⟨⟨_, rfl⟩, ua, uc, HR6.out, HL6.out⟩
set_option maxHeartbeats 2000000 in
theorem attr_other (w0 : World) (r g p : Nat) (b : List UInt8) (m : SM) (ua : Option Addr) (uc : Nat) (w : World) (x : Option SM) (hR : Rd w0 r (b.drop p) w) (hL : Lm w0 g m ua uc w) (hrg : r < g) (hb : b.length ≤ 1000) (hul : m.unk.length ≤ 2000)
    (hlen : p + 4 + (sTwo b (p + 2) + 3) / 4 * 4 ≤ b.length) (hm : m.hstep (sTwo b p, cutB b (p + 4) (sTwo b (p + 2))) = x) (hk0 : sTwo b p ≠ 32) (hk1 : sTwo b p ≠ 9) (hk2 : sTwo b p ≠ 10) (hk3 : sTwo b p ≠ 32802) (hk4 : sTwo b p ≠ 32808) :
    Calls Try.prog 50 #[.pointer (some ⟨r, 0, none⟩), .pointer (some ⟨g, 0, none⟩)] w fun e w' => AttrEnd w0 r g (b.drop (p + 4 + (sTwo b (p + 2) + 3) / 4 * 4)) x e w' := by
  have hgw := hL.gw
  have HR := uhid hR
  have HL := uhid hL
  obtain ⟨kd, hkd⟩ : ∃ kd, sTwo b p = kd := ⟨_, rfl⟩
  obtain ⟨sz, hsz⟩ : ∃ sz, sTwo b (p + 2) = sz := ⟨_, rfl⟩
  have hkd9 : kd < 65536 := by rw [← hkd]; exact sTwo_lt9 b p
  have hsz9 : sz < 65536 := by rw [← hsz]; exact sTwo_lt9 b (p + 2)
  obtain ⟨fl, hfl⟩ : ∃ fl, (4 - sz % 4) % 4 = fl := ⟨_, rfl⟩
  rw [hsz] at hlen
  rw [hkd, hsz] at hm
  rw [hsz]
  obtain ⟨D, hD⟩ : ∃ D, (b.drop (p + 2 + 2)).take sz = D := ⟨_, rfl⟩
  have hDl : D.length = sz := by rw [← hD, List.length_take, List.length_drop]; omega
  have hm2 : m.hstep (kd, D) = x := by rw [← hD]; exact hm
  have HM := uhid hm2
  obtain ⟨q, hq⟩ : ∃ q, p + 4 + (sz + 3) / 4 * 4 = q := ⟨_, rfl⟩
  rw [hq]
  clear hR hL hm hm2
  rw [hkd] at hk0 hk1 hk2 hk3 hk4
  have j0 : ¬ (kd : Int) = 32 := by omega
  have j1 : ¬ (kd : Int) = 9 := by omega
  have j2 : ¬ (kd : Int) = 10 := by omega
  have j3 : ¬ (kd : Int) = 32802 := by omega
  have j4 : ¬ (kd : Int) = 32808 := by omega
  have hx : x = some { m with unk := m.unk ++ [(kd : Int)] } := by rw [← HM.out]; unfold SM.hstep; simp [hk0, hk1, hk2, hk3, hk4]
  subst hx
  clear HM hk0 hk1 hk2 hk3 hk4
  go_enter Try.func50, Try.ntmps50
  go_wp2_with fail
  refine (rnumber_yes w0 r 2 (b.drop p) w HR.out (by decide) (by decide) (by rw [List.length_drop]; omega)).mono ?_
  rintro e w1 ⟨rfl, hR1, hG1⟩
  rw [two_drop, hkd]
  rw [List.drop_drop] at hR1
  have HR1 := uhid hR1
  have HL1 := uhid (HL.out.low hG1 hrg HR.out.lo)
  have HG1 := uhid hG1
  clear hR1 hG1
  go_wp2_with fail
  refine (rnumber_yes w0 r 2 (b.drop (p + 2)) w1 HR1.out (by decide) (by decide) (by rw [List.length_drop]; omega)).mono ?_
  rintro e w2 ⟨rfl, hR2, hG2⟩
  rw [two_drop, hsz]
  rw [List.drop_drop] at hR2
  have HR2 := uhid hR2
  have HL2 := uhid (HL1.out.low hG2 hrg HR.out.lo)
  clear hR2 hG2 HR1 HL1
  go_wp2_with fail
  refine (rbytes_yes w0 r sz (b.drop (p + 2 + 2)) w2 HR2.out (by rw [List.length_drop]; omega)).mono ?_
  rintro e w3 ⟨a3, c3, rfl, hP3, hR3, hG3⟩
  rw [List.drop_drop] at hR3
  have HP3 := uhid hP3
  have HR3 := uhid hR3
  have HL3 := uhid (HL2.out.low hG3 hrg HR.out.lo)
  clear hP3 hR3 hG3 HR2 HL2
  have hb3 : Below w3.heap.size w3 (w3.alloc (.cells #[.slice a3 sz c3] 79)) := (Below.refl _ _).alloc (Nat.le_refl _) _
  have hrow3 := heap_alloc_new w3 (.cells #[.slice a3 sz c3] 79)
  go_wp2_with fail
  refine (fill_any sz _ (by omega)).mono ?_
  rintro e w4 ⟨rfl, rfl⟩
  rw [hfl]
  obtain ⟨W4, hW4⟩ : ∃ W4, w3.alloc (.cells #[.slice a3 sz c3] 79) = W4 := ⟨_, rfl⟩
  rw [hW4] at hb3 hrow3
  rw [hW4]
  obtain ⟨v, hv⟩ : ∃ v, w3.heap.size = v := ⟨_, rfl⟩
  rw [hv] at hrow3
  rw [hv]
  have hgv : g < v := by rw [← hv]; exact HL3.out.lt
  have huv : ∀ j, blockOf ua = some j → j < v := fun j hj => by rw [← hv]; exact HL3.out.seg.lt j hj
  have HR4 := uhid (HR3.out.below hb3)
  have HL4 := uhid (HL3.out.later hb3)
  have hdl : ((b.drop (p + 2 + 2)).take sz).length = sz := by rw [List.length_take, List.length_drop]; omega
  have HV4 : Hid (Rd w0 v ((b.drop (p + 2 + 2)).take sz) W4) := uhid ⟨⟨a3, c3, by rw [hdl]; exact hrow3, by rw [hdl]; exact HP3.out⟩, HR4.out.bel, by have := HR.out.lo; omega⟩
  clear HR3 HL3 HP3 hb3 hrow3 hW4 hv hdl
  go_wp2_with fail
  refine (rbytes_yes w0 r fl (b.drop (p + 2 + 2 + sz)) W4 HR4.out (by rw [List.length_drop]; omega)).mono ?_
  rintro e w5 ⟨a5, c5, rfl, hP5, hR5, hG5⟩
  rw [List.drop_drop] at hR5
  have hpe : p + 2 + 2 + sz + fl = p + 4 + (sz + 3) / 4 * 4 := by omega
  rw [hpe, hq] at hR5
  have HR5 := uhid hR5
  have HL5 := uhid (HL4.out.low hG5 hrg HR.out.lo)
  have HV5 := uhid (HV4.out.kept (hG5.block v HV4.out.lt (fun e => by cases e; omega)) HR5.out.bel)
  have HUV := uhid huv
  clear hP5 hR5 hG5 HR4 HL4 HV4 hpe huv
  rw [hD] at HV5
  have hlv : w0.heap.size ≤ v := HV5.out.lo
  have hrv : r ≠ v := by omega
  have hvg : v ≠ g := by omega
  have hrgn : r ≠ g := by omega
  clear hD HR
  obtain ⟨a2, c2, W2, hap, ⟨v18, q18'⟩, f18, hL6, hkeep, _, hsz2, hbel2, _⟩ := HL5.out.app (kd : Int) (by omega)
  have q18 : w5.cell? ⟨g, 18, none⟩ = some (.slice ua m.unk.length uc) := HL5.out.cell 18 _ rfl
  have HAP := uhid hap
  have HL6 := uhid hL6
  have HR6 : Hid (Rd w0 r (b.drop q) (W2.setCell ⟨g, 18, none⟩ (.slice a2 (m.unk.length + 1) c2))) := uhid (HR5.out.kept (hkeep r HR5.out.lt hrgn (fun e => by have := HL5.out.hi r e; omega)) hL6.bel)
  obtain ⟨k, hkk⟩ : ∃ k, m.unk.length = k := ⟨_, rfl⟩
  rw [hkk] at HL6 HR6 HAP q18
  clear hap hL6 hkeep hsz2 hbel2 HL5 HR5 HV5 hkk
  go_wp2_with (at_builtin; refine wpList_append_run rfl (.tmp 24) (.tmp 26) 27 rfl _ _ _ _ rfl rfl HAP.out ?_)
  refine bodyPost_end (results_none rfl _ _ _) rfl ?_
  exact ⟨⟨_, rfl⟩, a2, c2, HR6.out, HL6.out⟩
set_option maxHeartbeats 2000000 in
theorem attr_mapped (w0 : World) (r g p : Nat) (b : List UInt8) (m : SM) (ua : Option Addr) (uc : Nat) (w : World) (x : Option SM) (hR : Rd w0 r (b.drop p) w) (hL : Lm w0 g m ua uc w) (hrg : r < g) (hb : b.length ≤ 1000) (hul : m.unk.length ≤ 2000)
    (hlen : p + 4 + (sTwo b (p + 2) + 3) / 4 * 4 ≤ b.length) (hm : m.hstep (sTwo b p, cutB b (p + 4) (sTwo b (p + 2))) = x) (hk : sTwo b p = 32) :
    Calls Try.prog 50 #[.pointer (some ⟨r, 0, none⟩), .pointer (some ⟨g, 0, none⟩)] w fun e w' => AttrEnd w0 r g (b.drop (p + 4 + (sTwo b (p + 2) + 3) / 4 * 4)) x e w' := by
  have hgw := hL.gw
  have HR := uhid hR
  have HL := uhid hL
  obtain ⟨kd, hkd⟩ : ∃ kd, sTwo b p = kd := ⟨_, rfl⟩
  obtain ⟨sz, hsz⟩ : ∃ sz, sTwo b (p + 2) = sz := ⟨_, rfl⟩
  have hkd9 : kd < 65536 := by rw [← hkd]; exact sTwo_lt9 b p
  have hsz9 : sz < 65536 := by rw [← hsz]; exact sTwo_lt9 b (p + 2)
  obtain ⟨fl, hfl⟩ : ∃ fl, (4 - sz % 4) % 4 = fl := ⟨_, rfl⟩
  rw [hsz] at hlen
  rw [hkd, hsz] at hm
  rw [hsz]
  obtain ⟨D, hD⟩ : ∃ D, (b.drop (p + 2 + 2)).take sz = D := ⟨_, rfl⟩
  have hDl : D.length = sz := by rw [← hD, List.length_take, List.length_drop]; omega
  have hm2 : m.hstep (kd, D) = x := by rw [← hD]; exact hm
  have HM := uhid hm2
  obtain ⟨q, hq⟩ : ∃ q, p + 4 + (sz + 3) / 4 * 4 = q := ⟨_, rfl⟩
  rw [hq]
  clear hR hL hm hm2
  have hk2 : kd = 32 := hkd.symm.trans hk
  subst hk2
  by_cases hs : sz < 8
  · have hx : x = none := by rw [← HM.out]; unfold SM.hstep; simp [hDl, hs]
    subst hx
    clear HM
    by_cases hs2 : sz < 2
    · go_enter Try.func50, Try.ntmps50
      go_wp2_with fail
      refine (rnumber_yes w0 r 2 (b.drop p) w HR.out (by decide) (by decide) (by rw [List.length_drop]; omega)).mono ?_
      rintro e w1 ⟨rfl, hR1, hG1⟩
      rw [two_drop, hkd]
      rw [List.drop_drop] at hR1
      have HR1 := uhid hR1
      have HL1 := uhid (HL.out.low hG1 hrg HR.out.lo)
      have HG1 := uhid hG1
      clear hR1 hG1
      go_wp2_with fail
      refine (rnumber_yes w0 r 2 (b.drop (p + 2)) w1 HR1.out (by decide) (by decide) (by rw [List.length_drop]; omega)).mono ?_
      rintro e w2 ⟨rfl, hR2, hG2⟩
      rw [two_drop, hsz]
      rw [List.drop_drop] at hR2
      have HR2 := uhid hR2
      have HL2 := uhid (HL1.out.low hG2 hrg HR.out.lo)
      clear hR2 hG2 HR1 HL1
      go_wp2_with fail
      refine (rbytes_yes w0 r sz (b.drop (p + 2 + 2)) w2 HR2.out (by rw [List.length_drop]; omega)).mono ?_
      rintro e w3 ⟨a3, c3, rfl, hP3, hR3, hG3⟩
      rw [List.drop_drop] at hR3
      have HP3 := uhid hP3
      have HR3 := uhid hR3
      have HL3 := uhid (HL2.out.low hG3 hrg HR.out.lo)
      clear hP3 hR3 hG3 HR2 HL2
      have hb3 : Below w3.heap.size w3 (w3.alloc (.cells #[.slice a3 sz c3] 79)) := (Below.refl _ _).alloc (Nat.le_refl _) _
      have hrow3 := heap_alloc_new w3 (.cells #[.slice a3 sz c3] 79)
      go_wp2_with fail
      refine (fill_any sz _ (by omega)).mono ?_
      rintro e w4 ⟨rfl, rfl⟩
      rw [hfl]
      obtain ⟨W4, hW4⟩ : ∃ W4, w3.alloc (.cells #[.slice a3 sz c3] 79) = W4 := ⟨_, rfl⟩
      rw [hW4] at hb3 hrow3
      rw [hW4]
      obtain ⟨v, hv⟩ : ∃ v, w3.heap.size = v := ⟨_, rfl⟩
      rw [hv] at hrow3
      rw [hv]
      have hgv : g < v := by rw [← hv]; exact HL3.out.lt
      have huv : ∀ j, blockOf ua = some j → j < v := fun j hj => by rw [← hv]; exact HL3.out.seg.lt j hj
      have HR4 := uhid (HR3.out.below hb3)
      have HL4 := uhid (HL3.out.later hb3)
      have hdl : ((b.drop (p + 2 + 2)).take sz).length = sz := by rw [List.length_take, List.length_drop]; omega
      have HV4 : Hid (Rd w0 v ((b.drop (p + 2 + 2)).take sz) W4) := uhid ⟨⟨a3, c3, by rw [hdl]; exact hrow3, by rw [hdl]; exact HP3.out⟩, HR4.out.bel, by have := HR.out.lo; omega⟩
      clear HR3 HL3 HP3 hb3 hrow3 hW4 hv hdl
      go_wp2_with fail
      refine (rbytes_yes w0 r fl (b.drop (p + 2 + 2 + sz)) W4 HR4.out (by rw [List.length_drop]; omega)).mono ?_
      rintro e w5 ⟨a5, c5, rfl, hP5, hR5, hG5⟩
      rw [List.drop_drop] at hR5
      have hpe : p + 2 + 2 + sz + fl = p + 4 + (sz + 3) / 4 * 4 := by omega
      rw [hpe, hq] at hR5
      have HR5 := uhid hR5
      have HL5 := uhid (HL4.out.low hG5 hrg HR.out.lo)
      have HV5 := uhid (HV4.out.kept (hG5.block v HV4.out.lt (fun e => by cases e; omega)) HR5.out.bel)
      have HUV := uhid huv
      clear hP5 hR5 hG5 HR4 HL4 HV4 hpe huv
      rw [hD] at HV5
      have hlv : w0.heap.size ≤ v := HV5.out.lo
      have hrv : r ≠ v := by omega
      have hvg : v ≠ g := by omega
      have hrgn : r ≠ g := by omega
      clear hD HR
      go_wp2_with fail
      obtain ⟨a, c, hr⟩ := HV5.out.stuck
      refine (rbytes_no v 2 a _ c w5 hr (by omega) (by omega)).mono ?_
      rintro e w11 ⟨rfl, rfl⟩
      go_wp2_with fail
      exact ⟨rfl, rfl, HV5.out.bel⟩
    · by_cases hs4 : sz < 4
      · go_enter Try.func50, Try.ntmps50
        go_wp2_with fail
        refine (rnumber_yes w0 r 2 (b.drop p) w HR.out (by decide) (by decide) (by rw [List.length_drop]; omega)).mono ?_
        rintro e w1 ⟨rfl, hR1, hG1⟩
        rw [two_drop, hkd]
        rw [List.drop_drop] at hR1
        have HR1 := uhid hR1
        have HL1 := uhid (HL.out.low hG1 hrg HR.out.lo)
        have HG1 := uhid hG1
        clear hR1 hG1
        go_wp2_with fail
        refine (rnumber_yes w0 r 2 (b.drop (p + 2)) w1 HR1.out (by decide) (by decide) (by rw [List.length_drop]; omega)).mono ?_
        rintro e w2 ⟨rfl, hR2, hG2⟩
        rw [two_drop, hsz]
        rw [List.drop_drop] at hR2
        have HR2 := uhid hR2
        have HL2 := uhid (HL1.out.low hG2 hrg HR.out.lo)
        clear hR2 hG2 HR1 HL1
        go_wp2_with fail
        refine (rbytes_yes w0 r sz (b.drop (p + 2 + 2)) w2 HR2.out (by rw [List.length_drop]; omega)).mono ?_
        rintro e w3 ⟨a3, c3, rfl, hP3, hR3, hG3⟩
        rw [List.drop_drop] at hR3
        have HP3 := uhid hP3
        have HR3 := uhid hR3
        have HL3 := uhid (HL2.out.low hG3 hrg HR.out.lo)
        clear hP3 hR3 hG3 HR2 HL2
        have hb3 : Below w3.heap.size w3 (w3.alloc (.cells #[.slice a3 sz c3] 79)) := (Below.refl _ _).alloc (Nat.le_refl _) _
        have hrow3 := heap_alloc_new w3 (.cells #[.slice a3 sz c3] 79)
        go_wp2_with fail
        refine (fill_any sz _ (by omega)).mono ?_
        rintro e w4 ⟨rfl, rfl⟩
        rw [hfl]
        obtain ⟨W4, hW4⟩ : ∃ W4, w3.alloc (.cells #[.slice a3 sz c3] 79) = W4 := ⟨_, rfl⟩
        rw [hW4] at hb3 hrow3
        rw [hW4]
        obtain ⟨v, hv⟩ : ∃ v, w3.heap.size = v := ⟨_, rfl⟩
        rw [hv] at hrow3
        rw [hv]
        have hgv : g < v := by rw [← hv]; exact HL3.out.lt
        have huv : ∀ j, blockOf ua = some j → j < v := fun j hj => by rw [← hv]; exact HL3.out.seg.lt j hj
        have HR4 := uhid (HR3.out.below hb3)
        have HL4 := uhid (HL3.out.later hb3)
        have hdl : ((b.drop (p + 2 + 2)).take sz).length = sz := by rw [List.length_take, List.length_drop]; omega
        have HV4 : Hid (Rd w0 v ((b.drop (p + 2 + 2)).take sz) W4) := uhid ⟨⟨a3, c3, by rw [hdl]; exact hrow3, by rw [hdl]; exact HP3.out⟩, HR4.out.bel, by have := HR.out.lo; omega⟩
        clear HR3 HL3 HP3 hb3 hrow3 hW4 hv hdl
        go_wp2_with fail
        refine (rbytes_yes w0 r fl (b.drop (p + 2 + 2 + sz)) W4 HR4.out (by rw [List.length_drop]; omega)).mono ?_
        rintro e w5 ⟨a5, c5, rfl, hP5, hR5, hG5⟩
        rw [List.drop_drop] at hR5
        have hpe : p + 2 + 2 + sz + fl = p + 4 + (sz + 3) / 4 * 4 := by omega
        rw [hpe, hq] at hR5
        have HR5 := uhid hR5
        have HL5 := uhid (HL4.out.low hG5 hrg HR.out.lo)
        have HV5 := uhid (HV4.out.kept (hG5.block v HV4.out.lt (fun e => by cases e; omega)) HR5.out.bel)
        have HUV := uhid huv
        clear hP5 hR5 hG5 HR4 HL4 HV4 hpe huv
        rw [hD] at HV5
        have hlv : w0.heap.size ≤ v := HV5.out.lo
        have hrv : r ≠ v := by omega
        have hvg : v ≠ g := by omega
        have hrgn : r ≠ g := by omega
        clear hD HR
        go_wp2_with fail
        refine (rbytes_yes w0 v 2 D w5 HV5.out (by omega)).mono ?_
        rintro e w6 ⟨a6, c6, rfl, hP6, hV6, hG6⟩
        have HV6 := uhid hV6
        have HR6 := uhid (HR5.out.but hG6 hrv hlv)
        have HL6 := uhid (HL5.out.but hG6 hvg (fun j hj => by have := HUV.out j hj; omega) hlv)
        clear hP6 hV6 hG6 HV5 HR5 HL5
        go_wp2_with fail
        obtain ⟨a, c, hr⟩ := HV6.out.stuck
        rw [List.length_drop] at hr
        refine (rnumber_no v 2 a _ c w6 hr (by omega) (by omega)).mono ?_
        rintro e w11 ⟨rfl, rfl⟩
        go_wp2_with fail
        exact ⟨rfl, rfl, HV6.out.bel⟩
      · go_enter Try.func50, Try.ntmps50
        go_wp2_with fail
        refine (rnumber_yes w0 r 2 (b.drop p) w HR.out (by decide) (by decide) (by rw [List.length_drop]; omega)).mono ?_
        rintro e w1 ⟨rfl, hR1, hG1⟩
        rw [two_drop, hkd]
        rw [List.drop_drop] at hR1
        have HR1 := uhid hR1
        have HL1 := uhid (HL.out.low hG1 hrg HR.out.lo)
        have HG1 := uhid hG1
        clear hR1 hG1
        go_wp2_with fail
        refine (rnumber_yes w0 r 2 (b.drop (p + 2)) w1 HR1.out (by decide) (by decide) (by rw [List.length_drop]; omega)).mono ?_
        rintro e w2 ⟨rfl, hR2, hG2⟩
        rw [two_drop, hsz]
        rw [List.drop_drop] at hR2
        have HR2 := uhid hR2
        have HL2 := uhid (HL1.out.low hG2 hrg HR.out.lo)
        clear hR2 hG2 HR1 HL1
        go_wp2_with fail
        refine (rbytes_yes w0 r sz (b.drop (p + 2 + 2)) w2 HR2.out (by rw [List.length_drop]; omega)).mono ?_
        rintro e w3 ⟨a3, c3, rfl, hP3, hR3, hG3⟩
        rw [List.drop_drop] at hR3
        have HP3 := uhid hP3
        have HR3 := uhid hR3
        have HL3 := uhid (HL2.out.low hG3 hrg HR.out.lo)
        clear hP3 hR3 hG3 HR2 HL2
        have hb3 : Below w3.heap.size w3 (w3.alloc (.cells #[.slice a3 sz c3] 79)) := (Below.refl _ _).alloc (Nat.le_refl _) _
        have hrow3 := heap_alloc_new w3 (.cells #[.slice a3 sz c3] 79)
        go_wp2_with fail
        refine (fill_any sz _ (by omega)).mono ?_
        rintro e w4 ⟨rfl, rfl⟩
        rw [hfl]
        obtain ⟨W4, hW4⟩ : ∃ W4, w3.alloc (.cells #[.slice a3 sz c3] 79) = W4 := ⟨_, rfl⟩
        rw [hW4] at hb3 hrow3
        rw [hW4]
        obtain ⟨v, hv⟩ : ∃ v, w3.heap.size = v := ⟨_, rfl⟩
        rw [hv] at hrow3
        rw [hv]
        have hgv : g < v := by rw [← hv]; exact HL3.out.lt
        have huv : ∀ j, blockOf ua = some j → j < v := fun j hj => by rw [← hv]; exact HL3.out.seg.lt j hj
        have HR4 := uhid (HR3.out.below hb3)
        have HL4 := uhid (HL3.out.later hb3)
        have hdl : ((b.drop (p + 2 + 2)).take sz).length = sz := by rw [List.length_take, List.length_drop]; omega
        have HV4 : Hid (Rd w0 v ((b.drop (p + 2 + 2)).take sz) W4) := uhid ⟨⟨a3, c3, by rw [hdl]; exact hrow3, by rw [hdl]; exact HP3.out⟩, HR4.out.bel, by have := HR.out.lo; omega⟩
        clear HR3 HL3 HP3 hb3 hrow3 hW4 hv hdl
        go_wp2_with fail
        refine (rbytes_yes w0 r fl (b.drop (p + 2 + 2 + sz)) W4 HR4.out (by rw [List.length_drop]; omega)).mono ?_
        rintro e w5 ⟨a5, c5, rfl, hP5, hR5, hG5⟩
        rw [List.drop_drop] at hR5
        have hpe : p + 2 + 2 + sz + fl = p + 4 + (sz + 3) / 4 * 4 := by omega
        rw [hpe, hq] at hR5
        have HR5 := uhid hR5
        have HL5 := uhid (HL4.out.low hG5 hrg HR.out.lo)
        have HV5 := uhid (HV4.out.kept (hG5.block v HV4.out.lt (fun e => by cases e; omega)) HR5.out.bel)
        have HUV := uhid huv
        clear hP5 hR5 hG5 HR4 HL4 HV4 hpe huv
        rw [hD] at HV5
        have hlv : w0.heap.size ≤ v := HV5.out.lo
        have hrv : r ≠ v := by omega
        have hvg : v ≠ g := by omega
        have hrgn : r ≠ g := by omega
        clear hD HR
        go_wp2_with fail
        refine (rbytes_yes w0 v 2 D w5 HV5.out (by omega)).mono ?_
        rintro e w6 ⟨a6, c6, rfl, hP6, hV6, hG6⟩
        have HV6 := uhid hV6
        have HR6 := uhid (HR5.out.but hG6 hrv hlv)
        have HL6 := uhid (HL5.out.but hG6 hvg (fun j hj => by have := HUV.out j hj; omega) hlv)
        clear hP6 hV6 hG6 HV5 HR5 HL5
        go_wp2_with fail
        refine (rnumber_yes w0 v 2 (D.drop 2) w6 HV6.out (by decide) (by decide) (by rw [List.length_drop]; omega)).mono ?_
        rintro e w7 ⟨rfl, hV7, hG7⟩
        rw [two_drop]
        rw [List.drop_drop] at hV7
        obtain ⟨P, hP⟩ : ∃ P, sTwo D 2 = P := ⟨_, rfl⟩
        have hP9 : P < 65536 := by rw [← hP]; exact sTwo_lt9 D 2
        rw [hP]
        have HPe := uhid hP
        have x1 : bits .xor .i64 (P : Int) 8466 = ((P ^^^ 8466 : Nat) : Int) := xorI P 8466 (by omega) (by decide)
        have HV7 := uhid hV7
        have HR7 := uhid (HR6.out.but hG7 hrv hlv)
        have HL7 := uhid (HL6.out.but hG7 hvg (fun j hj => by have := HUV.out j hj; omega) hlv)
        have q14 : w7.cell? ⟨g, 14, none⟩ = some (.int .i64 m.port) := HL7.out.cell 14 _ rfl
        have f14 := HL7.out.frozen 14
        have HL8 : Hid (Lm w0 g { m with port := ((P ^^^ 8466 : Nat) : Int) } ua uc (w7.setCell ⟨g, 14, none⟩ (.int .i64 ((P ^^^ 8466 : Nat) : Int)))) := uhid (HL7.out.upd 14 _ { m with port := ((P ^^^ 8466 : Nat) : Int) } rfl rfl)
        have HR8 : Hid (Rd w0 r (b.drop q) (w7.setCell ⟨g, 14, none⟩ (.int .i64 ((P ^^^ 8466 : Nat) : Int)))) := uhid (HR7.out.away hrgn hgw _)
        have HV8 : Hid (Rd w0 v (D.drop (2 + 2)) (w7.setCell ⟨g, 14, none⟩ (.int .i64 ((P ^^^ 8466 : Nat) : Int)))) := uhid (HV7.out.away hvg hgw _)
        obtain ⟨X, hX⟩ : ∃ X, P ^^^ 8466 = X := ⟨_, rfl⟩
        rw [hX] at x1 HL8 HR8 HV8
        have HXe := uhid hX
        clear hP hV7 hG7 HV6 HR6 HL6 HR7 HL7 HV7 hX
        go_wp2_with fail
        obtain ⟨W8, hW8⟩ : ∃ W8, w7.setCell ⟨g, 14, none⟩ (.int .i64 (X : Int)) = W8 := ⟨_, rfl⟩
        rw [hW8] at HL8 HR8 HV8
        rw [hW8]
        clear hW8 q14 f14 x1
        obtain ⟨a, c, hr⟩ := HV8.out.stuck
        rw [List.length_drop] at hr
        refine (rnumber_no v 4 a _ c W8 hr (by omega) (by omega)).mono ?_
        rintro e w11 ⟨rfl, rfl⟩
        go_wp2_with fail
        exact ⟨rfl, rfl, HV8.out.bel⟩
  · have hx : x = some { m with host := getV D true 4 4 ^^^ 554869826, port := ((sTwo D 2 ^^^ 8466 : Nat) : Int) } := by rw [← HM.out]; unfold SM.hstep; simp [hDl, hs]
    subst hx
    clear HM
    go_enter Try.func50, Try.ntmps50
    go_wp2_with fail
    refine (rnumber_yes w0 r 2 (b.drop p) w HR.out (by decide) (by decide) (by rw [List.length_drop]; omega)).mono ?_
    rintro e w1 ⟨rfl, hR1, hG1⟩
    rw [two_drop, hkd]
    rw [List.drop_drop] at hR1
    have HR1 := uhid hR1
    have HL1 := uhid (HL.out.low hG1 hrg HR.out.lo)
    have HG1 := uhid hG1
    clear hR1 hG1
    go_wp2_with fail
    refine (rnumber_yes w0 r 2 (b.drop (p + 2)) w1 HR1.out (by decide) (by decide) (by rw [List.length_drop]; omega)).mono ?_
    rintro e w2 ⟨rfl, hR2, hG2⟩
    rw [two_drop, hsz]
    rw [List.drop_drop] at hR2
    have HR2 := uhid hR2
    have HL2 := uhid (HL1.out.low hG2 hrg HR.out.lo)
    clear hR2 hG2 HR1 HL1
    go_wp2_with fail
    refine (rbytes_yes w0 r sz (b.drop (p + 2 + 2)) w2 HR2.out (by rw [List.length_drop]; omega)).mono ?_
    rintro e w3 ⟨a3, c3, rfl, hP3, hR3, hG3⟩
    rw [List.drop_drop] at hR3
    have HP3 := uhid hP3
    have HR3 := uhid hR3
    have HL3 := uhid (HL2.out.low hG3 hrg HR.out.lo)
    clear hP3 hR3 hG3 HR2 HL2
    have hb3 : Below w3.heap.size w3 (w3.alloc (.cells #[.slice a3 sz c3] 79)) := (Below.refl _ _).alloc (Nat.le_refl _) _
    have hrow3 := heap_alloc_new w3 (.cells #[.slice a3 sz c3] 79)
    go_wp2_with fail
    refine (fill_any sz _ (by omega)).mono ?_
    rintro e w4 ⟨rfl, rfl⟩
    rw [hfl]
    obtain ⟨W4, hW4⟩ : ∃ W4, w3.alloc (.cells #[.slice a3 sz c3] 79) = W4 := ⟨_, rfl⟩
    rw [hW4] at hb3 hrow3
    rw [hW4]
    obtain ⟨v, hv⟩ : ∃ v, w3.heap.size = v := ⟨_, rfl⟩
    rw [hv] at hrow3
    rw [hv]
    have hgv : g < v := by rw [← hv]; exact HL3.out.lt
    have huv : ∀ j, blockOf ua = some j → j < v := fun j hj => by rw [← hv]; exact HL3.out.seg.lt j hj
    have HR4 := uhid (HR3.out.below hb3)
    have HL4 := uhid (HL3.out.later hb3)
    have hdl : ((b.drop (p + 2 + 2)).take sz).length = sz := by rw [List.length_take, List.length_drop]; omega
    have HV4 : Hid (Rd w0 v ((b.drop (p + 2 + 2)).take sz) W4) := uhid ⟨⟨a3, c3, by rw [hdl]; exact hrow3, by rw [hdl]; exact HP3.out⟩, HR4.out.bel, by have := HR.out.lo; omega⟩
    clear HR3 HL3 HP3 hb3 hrow3 hW4 hv hdl
    go_wp2_with fail
    refine (rbytes_yes w0 r fl (b.drop (p + 2 + 2 + sz)) W4 HR4.out (by rw [List.length_drop]; omega)).mono ?_
    rintro e w5 ⟨a5, c5, rfl, hP5, hR5, hG5⟩
    rw [List.drop_drop] at hR5
    have hpe : p + 2 + 2 + sz + fl = p + 4 + (sz + 3) / 4 * 4 := by omega
    rw [hpe, hq] at hR5
    have HR5 := uhid hR5
    have HL5 := uhid (HL4.out.low hG5 hrg HR.out.lo)
    have HV5 := uhid (HV4.out.kept (hG5.block v HV4.out.lt (fun e => by cases e; omega)) HR5.out.bel)
    have HUV := uhid huv
    clear hP5 hR5 hG5 HR4 HL4 HV4 hpe huv
    rw [hD] at HV5
    have hlv : w0.heap.size ≤ v := HV5.out.lo
    have hrv : r ≠ v := by omega
    have hvg : v ≠ g := by omega
    have hrgn : r ≠ g := by omega
    clear hD HR
    go_wp2_with fail
    refine (rbytes_yes w0 v 2 D w5 HV5.out (by omega)).mono ?_
    rintro e w6 ⟨a6, c6, rfl, hP6, hV6, hG6⟩
    have HV6 := uhid hV6
    have HR6 := uhid (HR5.out.but hG6 hrv hlv)
    have HL6 := uhid (HL5.out.but hG6 hvg (fun j hj => by have := HUV.out j hj; omega) hlv)
    clear hP6 hV6 hG6 HV5 HR5 HL5
    go_wp2_with fail
    refine (rnumber_yes w0 v 2 (D.drop 2) w6 HV6.out (by decide) (by decide) (by rw [List.length_drop]; omega)).mono ?_
    rintro e w7 ⟨rfl, hV7, hG7⟩
    rw [two_drop]
    rw [List.drop_drop] at hV7
    obtain ⟨P, hP⟩ : ∃ P, sTwo D 2 = P := ⟨_, rfl⟩
    have hP9 : P < 65536 := by rw [← hP]; exact sTwo_lt9 D 2
    rw [hP]
    have HPe := uhid hP
    have x1 : bits .xor .i64 (P : Int) 8466 = ((P ^^^ 8466 : Nat) : Int) := xorI P 8466 (by omega) (by decide)
    have HV7 := uhid hV7
    have HR7 := uhid (HR6.out.but hG7 hrv hlv)
    have HL7 := uhid (HL6.out.but hG7 hvg (fun j hj => by have := HUV.out j hj; omega) hlv)
    have q14 : w7.cell? ⟨g, 14, none⟩ = some (.int .i64 m.port) := HL7.out.cell 14 _ rfl
    have f14 := HL7.out.frozen 14
    have HL8 : Hid (Lm w0 g { m with port := ((P ^^^ 8466 : Nat) : Int) } ua uc (w7.setCell ⟨g, 14, none⟩ (.int .i64 ((P ^^^ 8466 : Nat) : Int)))) := uhid (HL7.out.upd 14 _ { m with port := ((P ^^^ 8466 : Nat) : Int) } rfl rfl)
    have HR8 : Hid (Rd w0 r (b.drop q) (w7.setCell ⟨g, 14, none⟩ (.int .i64 ((P ^^^ 8466 : Nat) : Int)))) := uhid (HR7.out.away hrgn hgw _)
    have HV8 : Hid (Rd w0 v (D.drop (2 + 2)) (w7.setCell ⟨g, 14, none⟩ (.int .i64 ((P ^^^ 8466 : Nat) : Int)))) := uhid (HV7.out.away hvg hgw _)
    obtain ⟨X, hX⟩ : ∃ X, P ^^^ 8466 = X := ⟨_, rfl⟩
    rw [hX] at x1 HL8 HR8 HV8
    have HXe := uhid hX
    clear hP hV7 hG7 HV6 HR6 HL6 HR7 HL7 HV7 hX
    go_wp2_with fail
    obtain ⟨W8, hW8⟩ : ∃ W8, w7.setCell ⟨g, 14, none⟩ (.int .i64 (X : Int)) = W8 := ⟨_, rfl⟩
    rw [hW8] at HL8 HR8 HV8
    rw [hW8]
    clear hW8 q14 f14 x1
    refine (rnumber_yes w0 v 4 (D.drop (2 + 2)) W8 HV8.out (by decide) (by decide) (by rw [List.length_drop]; omega)).mono ?_
    rintro e w9 ⟨rfl, hV9, hG9⟩
    rw [getV_drop]
    obtain ⟨Hh, hHh⟩ : ∃ Hh, getV D true (2 + 2) 4 = Hh := ⟨_, rfl⟩
    have hH9 : Hh < 4294967296 := by rw [← hHh]; exact getV_lt D 4 4
    rw [hHh]
    have HHe := uhid hHh
    have hwu : IntKind.u32.wrap (Hh : Int) = (Hh : Int) := by rw [IntKind.wrap_u32]; omega
    have x2 : bits .xor .u32 (Hh : Int) 554869826 = ((Hh ^^^ 554869826 : Nat) : Int) := xorU Hh 554869826 hH9 (by decide)
    have HR9 := uhid (HR8.out.but hG9 hrv hlv)
    have HL9 := uhid (HL8.out.but hG9 hvg (fun j hj => by have := HUV.out j hj; omega) hlv)
    have q13 : w9.cell? ⟨g, 13, none⟩ = some (.int .u32 (m.host : Int)) := HL9.out.cell 13 _ rfl
    have f13 := HL9.out.frozen 13
    have HL10 : Hid (Lm w0 g { m with port := (X : Int), host := Hh ^^^ 554869826 } ua uc (w9.setCell ⟨g, 13, none⟩ (.int .u32 ((Hh ^^^ 554869826 : Nat) : Int)))) := uhid (HL9.out.upd 13 _ { m with port := (X : Int), host := Hh ^^^ 554869826 } rfl rfl)
    have HR10 : Hid (Rd w0 r (b.drop q) (w9.setCell ⟨g, 13, none⟩ (.int .u32 ((Hh ^^^ 554869826 : Nat) : Int)))) := uhid (HR9.out.away hrgn hgw _)
    obtain ⟨Y, hY⟩ : ∃ Y, Hh ^^^ 554869826 = Y := ⟨_, rfl⟩
    rw [hY] at x2 HL10 HR10
    have HYe := uhid hY
    clear hHh hV9 hG9 HV8 HR8 HL8 HR9 HL9 hY
    go_wp2_with fail
    refine bodyPost_end (results_none rfl _ _ _) rfl ?_
    refine ⟨⟨_, rfl⟩, ua, uc, HR10.out, ?_⟩
    have e1 : getV D true 4 4 ^^^ 554869826 = Y := by rw [← HYe.out, ← HHe.out]
    have e2 : sTwo D 2 ^^^ 8466 = X := by rw [← HXe.out, ← HPe.out]
    have h10 := HL10.out
    rw [e1, e2]
    exact h10
end Go.Proofs.Ytejbhjcopldekaa
