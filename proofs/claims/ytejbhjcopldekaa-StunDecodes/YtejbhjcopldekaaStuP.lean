/- The program's attribute: a list (stage 12; written by tools/mkstuhear.py). -/
import Derived.Test.YtejbhjcopldekaaStuO
namespace Go.Proofs.Ytejbhjcopldekaa
set_option linter.unusedVariables false
set_option maxRecDepth 100000
open Go.RowKit

/-- A block stays. -/
def Kp (g : Nat) (w w' : World) : Prop := g < w.heap.size → g < w'.heap.size ∧ w'.heap[g]? = w.heap[g]?
theorem Kp.refl (g : Nat) (w : World) : Kp g w w := fun h => ⟨h, rfl⟩
theorem Kp.trans (g : Nat) (a b c : World) (h : Kp g a b) (k : Kp g b c) : Kp g a c := fun hg => ⟨(k (h hg).1).1, (k (h hg).1).2.trans (h hg).2⟩
theorem Kp.but {g v : Nat} {w w' : World} (hG : But v w w') (hne : g ≠ v) : Kp g w w' := fun hg => ⟨Nat.lt_of_lt_of_le hg hG.size, hG.block g hg (fun e => by cases e; exact hne rfl)⟩
theorem Kp.alloc (g : Nat) (w : World) (o : Obj) : Kp g w (w.alloc o) := fun hg => ⟨by rw [World.size_alloc]; omega, Below.heap_alloc w o g hg⟩
/-- How many bytes a reader has still to read. -/
def leftIn (w : World) (v : Nat) : Nat := match w.cell? ⟨v, 0, none⟩ with | some (.slice _ n _) => n | _ => 0
theorem Rd.left {w0 W : World} {r : Nat} {l : List UInt8} (h : Rd w0 r l W) : leftIn W r = l.length := by
  obtain ⟨a, c, hr⟩ := h.stuck
  have q0 : W.cell? ⟨r, 0, none⟩ = some (.slice a l.length c) := by rw [cell_of_row W r 0 _ _ (0, 0) hr]; rfl
  unfold leftIn
  rw [q0]
set_option maxHeartbeats 2000000 in
theorem attr_list (w0 : World) (r g p : Nat) (b : List UInt8) (m : SM) (ua : Option Addr) (uc : Nat) (w : World) (x : Option SM) (hR : Rd w0 r (b.drop p) w) (hL : Lm w0 g m ua uc w) (hrg : r < g) (hb : b.length ≤ 1000) (hul : m.unk.length ≤ 2000)
    (hlen : p + 4 + (sTwo b (p + 2) + 3) / 4 * 4 ≤ b.length) (hm : m.hstep (sTwo b p, cutB b (p + 4) (sTwo b (p + 2))) = x) (hk : sTwo b p = 10) :
    Calls Try.prog 50 #[.pointer (some ⟨r, 0, none⟩), .pointer (some ⟨g, 0, none⟩)] w fun e w' => AttrEnd w0 r g (b.drop (p + 4 + (sTwo b (p + 2) + 3) / 4 * 4)) x e w' := by
  have hgw := hL.gw
  have HR := uhid hR
  have HL := uhid hL
  obtain ⟨kd, hkd⟩ : ∃ kd, sTwo b p = kd := ⟨_, rfl⟩
  obtain ⟨sz, hsz⟩ : ∃ sz, sTwo b (p + 2) = sz := ⟨_, rfl⟩
  have hkd9 : kd < 65536 := by rw [← hkd]; exact sTwo_lt9 b p
  have hsz9 : sz < 65536 := by rw [← hsz]; exact sTwo_lt9 b (p + 2)
  obtain ⟨fl, hfl⟩ : ∃ fl, (4 - sz % 4) % 4 = fl := ⟨_, rfl⟩
  rw [hsz] at hlen
  rw [hkd, hsz] at hm
  rw [hsz]
  obtain ⟨D, hD⟩ : ∃ D, (b.drop (p + 2 + 2)).take sz = D := ⟨_, rfl⟩
  have hDl : D.length = sz := by rw [← hD, List.length_take, List.length_drop]; omega
  have hm2 : m.hstep (kd, D) = x := by rw [← hD]; exact hm
  have HM := uhid hm2
  obtain ⟨q, hq⟩ : ∃ q, p + 4 + (sz + 3) / 4 * 4 = q := ⟨_, rfl⟩
  rw [hq]
  clear hR hL hm hm2
  have hk2 : kd = 10 := hkd.symm.trans hk
  subst hk2
  by_cases hs : sz % 2 = 1
  · have hx : x = none := by rw [← HM.out]; unfold SM.hstep; simp [hDl, hs]
    subst hx
    clear HM
    go_enter Try.func50, Try.ntmps50
    go_wp2_with fail
    refine (rnumber_yes w0 r 2 (b.drop p) w HR.out (by decide) (by decide) (by rw [List.length_drop]; omega)).mono ?_
    rintro e w1 ⟨rfl, hR1, hG1⟩
    rw [two_drop, hkd]
    rw [List.drop_drop] at hR1
    have HR1 := uhid hR1
    have HL1 := uhid (HL.out.low hG1 hrg HR.out.lo)
    have HG1 := uhid hG1
    clear hR1 hG1
    go_wp2_with fail
    refine (rnumber_yes w0 r 2 (b.drop (p + 2)) w1 HR1.out (by decide) (by decide) (by rw [List.length_drop]; omega)).mono ?_
    rintro e w2 ⟨rfl, hR2, hG2⟩
    rw [two_drop, hsz]
    rw [List.drop_drop] at hR2
    have HR2 := uhid hR2
    have HL2 := uhid (HL1.out.low hG2 hrg HR.out.lo)
    clear hR2 hG2 HR1 HL1
    go_wp2_with fail
    refine (rbytes_yes w0 r sz (b.drop (p + 2 + 2)) w2 HR2.out (by rw [List.length_drop]; omega)).mono ?_
    rintro e w3 ⟨a3, c3, rfl, hP3, hR3, hG3⟩
    rw [List.drop_drop] at hR3
    have HP3 := uhid hP3
    have HR3 := uhid hR3
    have HL3 := uhid (HL2.out.low hG3 hrg HR.out.lo)
    clear hP3 hR3 hG3 HR2 HL2
    have hb3 : Below w3.heap.size w3 (w3.alloc (.cells #[.slice a3 sz c3] 79)) := (Below.refl _ _).alloc (Nat.le_refl _) _
    have hrow3 := heap_alloc_new w3 (.cells #[.slice a3 sz c3] 79)
    go_wp2_with fail
    refine (fill_any sz _ (by omega)).mono ?_
    rintro e w4 ⟨rfl, rfl⟩
    rw [hfl]
    obtain ⟨W4, hW4⟩ : ∃ W4, w3.alloc (.cells #[.slice a3 sz c3] 79) = W4 := ⟨_, rfl⟩
    rw [hW4] at hb3 hrow3
    rw [hW4]
    obtain ⟨v, hv⟩ : ∃ v, w3.heap.size = v := ⟨_, rfl⟩
    rw [hv] at hrow3
    rw [hv]
    have hgv : g < v := by rw [← hv]; exact HL3.out.lt
    have huv : ∀ j, blockOf ua = some j → j < v := fun j hj => by rw [← hv]; exact HL3.out.seg.lt j hj
    have HR4 := uhid (HR3.out.below hb3)
    have HL4 := uhid (HL3.out.later hb3)
    have hdl : ((b.drop (p + 2 + 2)).take sz).length = sz := by rw [List.length_take, List.length_drop]; omega
    have HV4 : Hid (Rd w0 v ((b.drop (p + 2 + 2)).take sz) W4) := uhid ⟨⟨a3, c3, by rw [hdl]; exact hrow3, by rw [hdl]; exact HP3.out⟩, HR4.out.bel, by have := HR.out.lo; omega⟩
    clear HR3 HL3 HP3 hb3 hrow3 hW4 hv hdl
    go_wp2_with fail
    refine (rbytes_yes w0 r fl (b.drop (p + 2 + 2 + sz)) W4 HR4.out (by rw [List.length_drop]; omega)).mono ?_
    rintro e w5 ⟨a5, c5, rfl, hP5, hR5, hG5⟩
    rw [List.drop_drop] at hR5
    have hpe : p + 2 + 2 + sz + fl = p + 4 + (sz + 3) / 4 * 4 := by omega
    rw [hpe, hq] at hR5
    have HR5 := uhid hR5
    have HL5 := uhid (HL4.out.low hG5 hrg HR.out.lo)
    have HV5 := uhid (HV4.out.kept (hG5.block v HV4.out.lt (fun e => by cases e; omega)) HR5.out.bel)
    have HUV := uhid huv
    clear hP5 hR5 hG5 HR4 HL4 HV4 hpe huv
    rw [hD] at HV5
    have hlv : w0.heap.size ≤ v := HV5.out.lo
    have hrv : r ≠ v := by omega
    have hvg : v ≠ g := by omega
    have hrgn : r ≠ g := by omega
    clear hD HR
    have hcl : ∀ j, blockOf ua = some j → j ≠ v := fun j hj => by have := HUV.out j hj; omega
    have HCL := uhid hcl
    clear hcl
    go_wp2_with fail
    go_loopw [70] (fun _ wr => ∃ (k : Nat) (m1 : SM) (ua1 : Option Addr) (uc1 : Nat), 2 * k ≤ sz ∧ Hid (m1 = { m with unk := m.unk ++ sTwos D k }) ∧ Hid (Rd w0 v (D.drop (2 * k)) wr) ∧ Hid (Rd w0 r (b.drop q) wr) ∧ Hid (Lm w0 g m1 ua1 uc1 wr) ∧ Hid (∀ j, blockOf ua1 = some j → j ≠ v)) (fun _ wr => leftIn wr v)
    case atStart => exact ⟨0, m, ua, uc, by omega, uhid (by simp [sTwos]), by simpa using HV5, HR5, HL5, HCL⟩
    case round =>
      obtain ⟨k, m1, ua1, uc1, hk, HM1, HV, HR6, HL6, HC⟩ := hrel
      obtain ⟨av, cv, hrv6⟩ := HV.out.stuck
      have hdl : (D.drop (2 * k)).length = sz - 2 * k := by rw [List.length_drop, hDl]
      rw [hdl] at hrv6
      have q0 : wr.cell? ⟨v, 0, none⟩ = some (.slice av (sz - 2 * k) cv) := by rw [cell_of_row wr v 0 _ _ (0, 0) hrv6]; rfl
      obtain ⟨lf, hlf⟩ : ∃ lf, sz - 2 * k = lf := ⟨_, rfl⟩
      rw [hlf] at q0 hrv6 hdl
      have hm1u : m1.unk.length ≤ 3000 := by
        rw [HM1.out]
        simp only [List.length_append]
        unfold sTwos
        rw [List.length_map, List.length_range]
        omega
      have i1 : (0 : Int) < (lf : Int) := by omega
      by_cases h2 : lf = 1
      · go_wp2_with fail
        obtain ⟨V, hVw⟩ : ∃ V, wr.drew = V := ⟨_, rfl⟩
        have hdr : Below wr.heap.size wr V := by rw [← hVw]; exact (Below.refl _ _).drew
        have HV7 := uhid (HV.out.below hdr)
        have HR7 := uhid (HR6.out.below hdr)
        have HL7 := uhid (HL6.out.later hdr)
        have HLF : Hid (leftIn wr v = lf) := uhid (by rw [HV.out.left]; exact hdl)
        obtain ⟨kk, hkk⟩ : ∃ kk, m1.unk.length = kk := ⟨_, rfl⟩
        have q18 : V.cell? ⟨g, 18, none⟩ = some (.slice ua1 m1.unk.length uc1) := HL7.out.cell 18 _ rfl
        rw [hkk] at q18
        have hgl := HL7.out.lt
        clear hdr HV HR6 HL6 q0 hrv6 hdl
        refine wp_region_sched (G := Kp g) (by kernel_rfl) (Kp.refl g) (Kp.trans g) (by kernel_rfl) (fun c a w d v h => by cases d <;> exact h) [(0, true), (1, true), (2, true), (3, true), (4, true), (5, false), (6, false), (7, false), (8, true), (9, true), (10, false)] rfl (by kernel_rfl) ?_
        show wpSched _ _ _ _ _ _ _ (World.drew _)
        rw [hVw]
        clear hVw
        iterate 4 (refine sched_take rfl (by rfl) (v := ?_) ?_ ?_; rotate_left; (intro w' hw'; clear hw'; go_simp; with_reducible rfl); go_simp)
        refine sched_take rfl (by rfl) (v := .slice ua1 kk uc1) (fun w' hw' => by
          have q1 : w'.cell? ⟨g, 18, none⟩ = some (.slice ua1 kk uc1) := by rw [World.cell?_of_block (hw' hgl).2]; exact q18
          clear hw'
          go_simp) ?_
        go_simp
        refine sched_panic (f := 47) (args := #[.pointer (some ⟨v, 0, none⟩), .int .i64 2]) rfl (by rfl) (by go_simp) ?_
        obtain ⟨a, c, hr⟩ := HV7.out.stuck
        rw [List.length_drop] at hr
        refine (rnumber_no v 2 a _ c V hr (by omega) (by omega)).mono ?_
        rintro e w11 ⟨rfl, rfl⟩
        refine ⟨_, rfl, ?_⟩
        exact ⟨rfl, rfl, HV7.out.bel⟩
      · go_wp2_with fail
        obtain ⟨V, hVw⟩ : ∃ V, wr.drew = V := ⟨_, rfl⟩
        have hdr : Below wr.heap.size wr V := by rw [← hVw]; exact (Below.refl _ _).drew
        have HV7 := uhid (HV.out.below hdr)
        have HR7 := uhid (HR6.out.below hdr)
        have HL7 := uhid (HL6.out.later hdr)
        have HLF : Hid (leftIn wr v = lf) := uhid (by rw [HV.out.left]; exact hdl)
        obtain ⟨kk, hkk⟩ : ∃ kk, m1.unk.length = kk := ⟨_, rfl⟩
        have q18 : V.cell? ⟨g, 18, none⟩ = some (.slice ua1 m1.unk.length uc1) := HL7.out.cell 18 _ rfl
        rw [hkk] at q18
        have hgl := HL7.out.lt
        clear hdr HV HR6 HL6 q0 hrv6 hdl
        refine wp_region_last (G := Kp g) (by kernel_rfl) (Kp.refl g) (Kp.trans g) (by kernel_rfl) [(0, true), (1, true), (2, true), (3, true), (4, true), (5, false), (6, false), (7, false), (8, true), (9, true)] 10 _ rfl ((Array.replicate 11 false).mapIdx fun i _ => i < 10) rfl (by kernel_rfl) (by kernel_rfl) (by kernel_rfl) (by kernel_rfl) ?_
        intro KK hKK
        rw [hVw]
        clear hVw
        iterate 4 (refine sched_take rfl (by rfl) (v := ?_) ?_ ?_; rotate_left; (intro w' hw'; clear hw'; go_simp; with_reducible rfl); go_simp)
        refine sched_take rfl (by rfl) (v := .slice ua1 kk uc1) (fun w' hw' => by
          have q1 : w'.cell? ⟨g, 18, none⟩ = some (.slice ua1 kk uc1) := by rw [World.cell?_of_block (hw' hgl).2]; exact q18
          clear hw'
          go_simp) ?_
        go_simp
        refine sched_call (f := 47) (args := #[.pointer (some ⟨v, 0, none⟩), .int .i64 2]) rfl (by rfl) (by go_simp) ?_
        refine (rnumber_yes w0 v 2 (D.drop (2 * k)) V HV7.out (by decide) (by decide) (by rw [List.length_drop]; omega)).mono ?_
        rintro e w8 ⟨rfl, hV8, hG8⟩
        rw [two_drop]
        rw [List.drop_drop] at hV8
        refine ⟨_, rfl, Kp.but hG8 (by omega), ?_⟩
        obtain ⟨N, hN⟩ : ∃ N, sTwo D (2 * k) = N := ⟨_, rfl⟩
        rw [hN]
        have HL8 := uhid (HL7.out.but hG8 hvg (fun j hj => HC.out j hj) hlv)
        have HR8 := uhid (HR7.out.but hG8 hrv hlv)
        obtain ⟨a2, c2, W2, hap, ⟨v18, q18'⟩, f18, hL9, hkeep, hbl, hsz2, hbel2, hrow2⟩ := HL8.out.app (N : Int) (by omega)
        have hKp : Kp g (w8.alloc (.cells #[.int .i64 (N : Int)] 3)) W2 := fun hg => ⟨(Array.getElem?_eq_some_iff.1 hrow2).1, by rw [hrow2, Below.heap_alloc w8 _ g HL8.out.lt, HL8.out.row]⟩
        have hR9 := HR8.out.kept (hkeep r HR8.out.lt hrgn (fun e => by have := HL8.out.hi r e; omega)) hL9.bel
        have hV9 := hV8.kept (hkeep v hV8.lt hvg (fun e => HC.out v e rfl)) hL9.bel
        have hlt8 := hV8.lt
        have hcl9 : ∀ j, blockOf a2 = some j → j ≠ v := fun j hj => by
          rcases hbl j hj with e | e
          · exact HC.out j e
          · omega
        rw [hkk] at hap hL9 hR9 hV9
        have hm9 : { m1 with unk := m1.unk ++ [(N : Int)] } = { m with unk := m.unk ++ sTwos D (k + 1) } := by
          rw [sTwos_succ, hN, HM1.out]
          simp
        rw [show 2 * k + 2 = 2 * (k + 1) by omega] at hV9
        have HAP := uhid hap
        have HKp := uhid hKp
        have HL9 := uhid hL9
        have HR9 := uhid hR9
        have HV9 := uhid hV9
        have HC9 := uhid hcl9
        have HM9 := uhid hm9
        have HV9l : Hid (leftIn (W2.setCell ⟨g, 18, none⟩ (.slice a2 (kk + 1) c2)) v + 2 = lf) := uhid (by rw [hV9.left, List.length_drop, hDl]; omega)
        clear hap hKp hL9 hR9 hV9 hcl9 hm9 hbl hkeep hrow2 hV8 hG8 HL7 HR7 HV7 HL8 HR8 HC hkk q18 hN hbel2 hm1u
        go_simp
        refine sched_val (v := .slice (some ⟨w8.heap.size, 0, none⟩) 1 1) (w' := w8.alloc (.cells #[.int .i64 (N : Int)] 3)) rfl (by rfl) (by go_simp; try rfl) (Kp.alloc g w8 _) ?_
        go_simp
        refine sched_append rfl (by rfl) rfl (by rfl) (by rfl) HAP.out HKp.out ?_
        clear HAP HKp
        go_simp
        iterate 2 (refine sched_take rfl (by rfl) (v := ?_) ?_ ?_; rotate_left; (intro w' hw'; clear hw'; go_simp; with_reducible rfl); go_simp)
        obtain ⟨Z, hZ⟩ : ∃ Z, W2.setCell ⟨g, 18, none⟩ (.slice a2 (kk + 1) c2) = Z := ⟨_, rfl⟩
        rw [hZ] at HL9 HR9 HV9 HV9l
        refine hKK.out _ _ Z (by rfl) (by rw [← hZ]; go_simp; try rfl) ?_
        clear hZ q18' f18 hKK
        have hdec : leftIn Z v < leftIn wr v := by have a1 := HV9l.out; have a2 := HLF.out; omega
        rw [HM9.out] at HL9
        go_simp
        go_wp2_with fail
        exact ⟨⟨k + 1, _, a2, c2, by omega, uhid rfl, HV9, HR9, HL9, HC9⟩, hdec⟩
  · have hx : x = some { m with unk := m.unk ++ sTwos D (sz / 2) } := by rw [← HM.out]; unfold SM.hstep; simp [hDl, hs]
    subst hx
    clear HM
    go_enter Try.func50, Try.ntmps50
    go_wp2_with fail
    refine (rnumber_yes w0 r 2 (b.drop p) w HR.out (by decide) (by decide) (by rw [List.length_drop]; omega)).mono ?_
    rintro e w1 ⟨rfl, hR1, hG1⟩
    rw [two_drop, hkd]
    rw [List.drop_drop] at hR1
    have HR1 := uhid hR1
    have HL1 := uhid (HL.out.low hG1 hrg HR.out.lo)
    have HG1 := uhid hG1
    clear hR1 hG1
    go_wp2_with fail
    refine (rnumber_yes w0 r 2 (b.drop (p + 2)) w1 HR1.out (by decide) (by decide) (by rw [List.length_drop]; omega)).mono ?_
    rintro e w2 ⟨rfl, hR2, hG2⟩
    rw [two_drop, hsz]
    rw [List.drop_drop] at hR2
    have HR2 := uhid hR2
    have HL2 := uhid (HL1.out.low hG2 hrg HR.out.lo)
    clear hR2 hG2 HR1 HL1
    go_wp2_with fail
    refine (rbytes_yes w0 r sz (b.drop (p + 2 + 2)) w2 HR2.out (by rw [List.length_drop]; omega)).mono ?_
    rintro e w3 ⟨a3, c3, rfl, hP3, hR3, hG3⟩
    rw [List.drop_drop] at hR3
    have HP3 := uhid hP3
    have HR3 := uhid hR3
    have HL3 := uhid (HL2.out.low hG3 hrg HR.out.lo)
    clear hP3 hR3 hG3 HR2 HL2
    have hb3 : Below w3.heap.size w3 (w3.alloc (.cells #[.slice a3 sz c3] 79)) := (Below.refl _ _).alloc (Nat.le_refl _) _
    have hrow3 := heap_alloc_new w3 (.cells #[.slice a3 sz c3] 79)
    go_wp2_with fail
    refine (fill_any sz _ (by omega)).mono ?_
    rintro e w4 ⟨rfl, rfl⟩
    rw [hfl]
    obtain ⟨W4, hW4⟩ : ∃ W4, w3.alloc (.cells #[.slice a3 sz c3] 79) = W4 := ⟨_, rfl⟩
    rw [hW4] at hb3 hrow3
    rw [hW4]
    obtain ⟨v, hv⟩ : ∃ v, w3.heap.size = v := ⟨_, rfl⟩
    rw [hv] at hrow3
    rw [hv]
    have hgv : g < v := by rw [← hv]; exact HL3.out.lt
    have huv : ∀ j, blockOf ua = some j → j < v := fun j hj => by rw [← hv]; exact HL3.out.seg.lt j hj
    have HR4 := uhid (HR3.out.below hb3)
    have HL4 := uhid (HL3.out.later hb3)
    have hdl : ((b.drop (p + 2 + 2)).take sz).length = sz := by rw [List.length_take, List.length_drop]; omega
    have HV4 : Hid (Rd w0 v ((b.drop (p + 2 + 2)).take sz) W4) := uhid ⟨⟨a3, c3, by rw [hdl]; exact hrow3, by rw [hdl]; exact HP3.out⟩, HR4.out.bel, by have := HR.out.lo; omega⟩
    clear HR3 HL3 HP3 hb3 hrow3 hW4 hv hdl
    go_wp2_with fail
    refine (rbytes_yes w0 r fl (b.drop (p + 2 + 2 + sz)) W4 HR4.out (by rw [List.length_drop]; omega)).mono ?_
    rintro e w5 ⟨a5, c5, rfl, hP5, hR5, hG5⟩
    rw [List.drop_drop] at hR5
    have hpe : p + 2 + 2 + sz + fl = p + 4 + (sz + 3) / 4 * 4 := by omega
    rw [hpe, hq] at hR5
    have HR5 := uhid hR5
    have HL5 := uhid (HL4.out.low hG5 hrg HR.out.lo)
    have HV5 := uhid (HV4.out.kept (hG5.block v HV4.out.lt (fun e => by cases e; omega)) HR5.out.bel)
    have HUV := uhid huv
    clear hP5 hR5 hG5 HR4 HL4 HV4 hpe huv
    rw [hD] at HV5
    have hlv : w0.heap.size ≤ v := HV5.out.lo
    have hrv : r ≠ v := by omega
    have hvg : v ≠ g := by omega
    have hrgn : r ≠ g := by omega
    clear hD HR
    have hcl : ∀ j, blockOf ua = some j → j ≠ v := fun j hj => by have := HUV.out j hj; omega
    have HCL := uhid hcl
    clear hcl
    go_wp2_with fail
    go_loopw [70] (fun _ wr => ∃ (k : Nat) (m1 : SM) (ua1 : Option Addr) (uc1 : Nat), 2 * k ≤ sz ∧ Hid (m1 = { m with unk := m.unk ++ sTwos D k }) ∧ Hid (Rd w0 v (D.drop (2 * k)) wr) ∧ Hid (Rd w0 r (b.drop q) wr) ∧ Hid (Lm w0 g m1 ua1 uc1 wr) ∧ Hid (∀ j, blockOf ua1 = some j → j ≠ v)) (fun _ wr => leftIn wr v)
    case atStart => exact ⟨0, m, ua, uc, by omega, uhid (by simp [sTwos]), by simpa using HV5, HR5, HL5, HCL⟩
    case round =>
      obtain ⟨k, m1, ua1, uc1, hk, HM1, HV, HR6, HL6, HC⟩ := hrel
      obtain ⟨av, cv, hrv6⟩ := HV.out.stuck
      have hdl : (D.drop (2 * k)).length = sz - 2 * k := by rw [List.length_drop, hDl]
      rw [hdl] at hrv6
      have q0 : wr.cell? ⟨v, 0, none⟩ = some (.slice av (sz - 2 * k) cv) := by rw [cell_of_row wr v 0 _ _ (0, 0) hrv6]; rfl
      obtain ⟨lf, hlf⟩ : ∃ lf, sz - 2 * k = lf := ⟨_, rfl⟩
      rw [hlf] at q0 hrv6 hdl
      have hm1u : m1.unk.length ≤ 3000 := by
        rw [HM1.out]
        simp only [List.length_append]
        unfold sTwos
        rw [List.length_map, List.length_range]
        omega
      by_cases h2 : lf = 0
      · have i1 : ¬ (0 : Int) < (lf : Int) := by omega
        have ek : k = sz / 2 := by omega
        have hl6 := HL6.out
        rw [HM1.out, ek] at hl6
        have HL7 := uhid hl6
        clear hl6 HL6 HV ek
        go_wp2_with fail
        refine bodyPost_end (results_none rfl _ _ _) rfl ?_
        exact ⟨⟨_, rfl⟩, ua1, uc1, HR6.out, HL7.out⟩
      · have i1 : (0 : Int) < (lf : Int) := by omega
        go_wp2_with fail
        obtain ⟨V, hVw⟩ : ∃ V, wr.drew = V := ⟨_, rfl⟩
        have hdr : Below wr.heap.size wr V := by rw [← hVw]; exact (Below.refl _ _).drew
        have HV7 := uhid (HV.out.below hdr)
        have HR7 := uhid (HR6.out.below hdr)
        have HL7 := uhid (HL6.out.later hdr)
        have HLF : Hid (leftIn wr v = lf) := uhid (by rw [HV.out.left]; exact hdl)
        obtain ⟨kk, hkk⟩ : ∃ kk, m1.unk.length = kk := ⟨_, rfl⟩
        have q18 : V.cell? ⟨g, 18, none⟩ = some (.slice ua1 m1.unk.length uc1) := HL7.out.cell 18 _ rfl
        rw [hkk] at q18
        have hgl := HL7.out.lt
        clear hdr HV HR6 HL6 q0 hrv6 hdl
        refine wp_region_last (G := Kp g) (by kernel_rfl) (Kp.refl g) (Kp.trans g) (by kernel_rfl) [(0, true), (1, true), (2, true), (3, true), (4, true), (5, false), (6, false), (7, false), (8, true), (9, true)] 10 _ rfl ((Array.replicate 11 false).mapIdx fun i _ => i < 10) rfl (by kernel_rfl) (by kernel_rfl) (by kernel_rfl) (by kernel_rfl) ?_
        intro KK hKK
        rw [hVw]
        clear hVw
        iterate 4 (refine sched_take rfl (by rfl) (v := ?_) ?_ ?_; rotate_left; (intro w' hw'; clear hw'; go_simp; with_reducible rfl); go_simp)
        refine sched_take rfl (by rfl) (v := .slice ua1 kk uc1) (fun w' hw' => by
          have q1 : w'.cell? ⟨g, 18, none⟩ = some (.slice ua1 kk uc1) := by rw [World.cell?_of_block (hw' hgl).2]; exact q18
          clear hw'
          go_simp) ?_
        go_simp
        refine sched_call (f := 47) (args := #[.pointer (some ⟨v, 0, none⟩), .int .i64 2]) rfl (by rfl) (by go_simp) ?_
        refine (rnumber_yes w0 v 2 (D.drop (2 * k)) V HV7.out (by decide) (by decide) (by rw [List.length_drop]; omega)).mono ?_
        rintro e w8 ⟨rfl, hV8, hG8⟩
        rw [two_drop]
        rw [List.drop_drop] at hV8
        refine ⟨_, rfl, Kp.but hG8 (by omega), ?_⟩
        obtain ⟨N, hN⟩ : ∃ N, sTwo D (2 * k) = N := ⟨_, rfl⟩
        rw [hN]
        have HL8 := uhid (HL7.out.but hG8 hvg (fun j hj => HC.out j hj) hlv)
        have HR8 := uhid (HR7.out.but hG8 hrv hlv)
        obtain ⟨a2, c2, W2, hap, ⟨v18, q18'⟩, f18, hL9, hkeep, hbl, hsz2, hbel2, hrow2⟩ := HL8.out.app (N : Int) (by omega)
        have hKp : Kp g (w8.alloc (.cells #[.int .i64 (N : Int)] 3)) W2 := fun hg => ⟨(Array.getElem?_eq_some_iff.1 hrow2).1, by rw [hrow2, Below.heap_alloc w8 _ g HL8.out.lt, HL8.out.row]⟩
        have hR9 := HR8.out.kept (hkeep r HR8.out.lt hrgn (fun e => by have := HL8.out.hi r e; omega)) hL9.bel
        have hV9 := hV8.kept (hkeep v hV8.lt hvg (fun e => HC.out v e rfl)) hL9.bel
        have hlt8 := hV8.lt
        have hcl9 : ∀ j, blockOf a2 = some j → j ≠ v := fun j hj => by
          rcases hbl j hj with e | e
          · exact HC.out j e
          · omega
        rw [hkk] at hap hL9 hR9 hV9
        have hm9 : { m1 with unk := m1.unk ++ [(N : Int)] } = { m with unk := m.unk ++ sTwos D (k + 1) } := by
          rw [sTwos_succ, hN, HM1.out]
          simp
        rw [show 2 * k + 2 = 2 * (k + 1) by omega] at hV9
        have HAP := uhid hap
        have HKp := uhid hKp
        have HL9 := uhid hL9
        have HR9 := uhid hR9
        have HV9 := uhid hV9
        have HC9 := uhid hcl9
        have HM9 := uhid hm9
        have HV9l : Hid (leftIn (W2.setCell ⟨g, 18, none⟩ (.slice a2 (kk + 1) c2)) v + 2 = lf) := uhid (by rw [hV9.left, List.length_drop, hDl]; omega)
        clear hap hKp hL9 hR9 hV9 hcl9 hm9 hbl hkeep hrow2 hV8 hG8 HL7 HR7 HV7 HL8 HR8 HC hkk q18 hN hbel2 hm1u
        go_simp
        refine sched_val (v := .slice (some ⟨w8.heap.size, 0, none⟩) 1 1) (w' := w8.alloc (.cells #[.int .i64 (N : Int)] 3)) rfl (by rfl) (by go_simp; try rfl) (Kp.alloc g w8 _) ?_
        go_simp
        refine sched_append rfl (by rfl) rfl (by rfl) (by rfl) HAP.out HKp.out ?_
        clear HAP HKp
        go_simp
        iterate 2 (refine sched_take rfl (by rfl) (v := ?_) ?_ ?_; rotate_left; (intro w' hw'; clear hw'; go_simp; with_reducible rfl); go_simp)
        obtain ⟨Z, hZ⟩ : ∃ Z, W2.setCell ⟨g, 18, none⟩ (.slice a2 (kk + 1) c2) = Z := ⟨_, rfl⟩
        rw [hZ] at HL9 HR9 HV9 HV9l
        refine hKK.out _ _ Z (by rfl) (by rw [← hZ]; go_simp; try rfl) ?_
        clear hZ q18' f18 hKK
        have hdec : leftIn Z v < leftIn wr v := by have a1 := HV9l.out; have a2 := HLF.out; omega
        rw [HM9.out] at HL9
        go_simp
        go_wp2_with fail
        exact ⟨⟨k + 1, _, a2, c2, by omega, uhid rfl, HV9, HR9, HL9, HC9⟩, hdec⟩
end Go.Proofs.Ytejbhjcopldekaa
