/- The program's attribute: the code, and a list (stage 12; written by tools/mkstuhear.py). -/
import Derived.Test.YtejbhjcopldekaaStuN
import Derived.Test.YtejbhjcopldekaaSchedE
namespace Go.Proofs.Ytejbhjcopldekaa
set_option linter.unusedVariables false
set_option maxRecDepth 100000
open Go.RowKit

/-- A call that panics. -/
theorem sched_panic {P : Program} {ops : Array Oper} {Q : Exit → Act → World → Prop} {G : World → World → Prop} {K : Act → World → Prop} {r : List (Nat × Bool)} {i : Nat} {o : Oper} {a : Act} {w : World} {f : FuncId} {args : Array Value} (ho : ops[i]? = some o)
    (hw : Region.wanted o (yielded ops a.tmps) = true) (hrun : (execOp a.eval o).run P w = .ok (.enter f args) w) (hc : Calls P f args w fun e w' => ∃ c, e = .panicked c ∧ Q (.panic c) a w') : wpSched P ops Q G K ((i, false) :: r) a w := by
  refine ⟨o, ho, .inr ⟨hw, .inr ⟨rfl, ?_⟩⟩⟩
  unfold Oper.wp
  rw [hrun]
  simp only [Oper.upon]
  refine hc.mono ?_
  rintro e w' ⟨c, rfl, h⟩
  exact h
set_option maxHeartbeats 2000000 in
theorem attr_code (w0 : World) (r g p : Nat) (b : List UInt8) (m : SM) (ua : Option Addr) (uc : Nat) (w : World) (x : Option SM) (hR : Rd w0 r (b.drop p) w) (hL : Lm w0 g m ua uc w) (hrg : r < g) (hb : b.length ≤ 1000) (hul : m.unk.length ≤ 2000)
    (hlen : p + 4 + (sTwo b (p + 2) + 3) / 4 * 4 ≤ b.length) (hm : m.hstep (sTwo b p, cutB b (p + 4) (sTwo b (p + 2))) = x) (hk : sTwo b p = 9) :
    Calls Try.prog 50 #[.pointer (some ⟨r, 0, none⟩), .pointer (some ⟨g, 0, none⟩)] w fun e w' => AttrEnd w0 r g (b.drop (p + 4 + (sTwo b (p + 2) + 3) / 4 * 4)) x e w' := by
  have hgw := hL.gw
  have HR := uhid hR
  have HL := uhid hL
  obtain ⟨kd, hkd⟩ : ∃ kd, sTwo b p = kd := ⟨_, rfl⟩
  obtain ⟨sz, hsz⟩ : ∃ sz, sTwo b (p + 2) = sz := ⟨_, rfl⟩
  have hkd9 : kd < 65536 := by rw [← hkd]; exact sTwo_lt9 b p
  have hsz9 : sz < 65536 := by rw [← hsz]; exact sTwo_lt9 b (p + 2)
  obtain ⟨fl, hfl⟩ : ∃ fl, (4 - sz % 4) % 4 = fl := ⟨_, rfl⟩
  rw [hsz] at hlen
  rw [hkd, hsz] at hm
  rw [hsz]
  obtain ⟨D, hD⟩ : ∃ D, (b.drop (p + 2 + 2)).take sz = D := ⟨_, rfl⟩
  have hDl : D.length = sz := by rw [← hD, List.length_take, List.length_drop]; omega
  have hm2 : m.hstep (kd, D) = x := by rw [← hD]; exact hm
  have HM := uhid hm2
  obtain ⟨q, hq⟩ : ∃ q, p + 4 + (sz + 3) / 4 * 4 = q := ⟨_, rfl⟩
  rw [hq]
  clear hR hL hm hm2
  have hk2 : kd = 9 := hkd.symm.trans hk
  subst hk2
  by_cases hs : sz < 4
  · have hx : x = none := by rw [← HM.out]; unfold SM.hstep; simp [hDl, hs]
    subst hx
    clear HM
    by_cases hs2 : sz < 2
    · go_enter Try.func50, Try.ntmps50
      go_wp2_with fail
      refine (rnumber_yes w0 r 2 (b.drop p) w HR.out (by decide) (by decide) (by rw [List.length_drop]; omega)).mono ?_
      rintro e w1 ⟨rfl, hR1, hG1⟩
      rw [two_drop, hkd]
      rw [List.drop_drop] at hR1
      have HR1 := uhid hR1
      have HL1 := uhid (HL.out.low hG1 hrg HR.out.lo)
      have HG1 := uhid hG1
      clear hR1 hG1
      go_wp2_with fail
      refine (rnumber_yes w0 r 2 (b.drop (p + 2)) w1 HR1.out (by decide) (by decide) (by rw [List.length_drop]; omega)).mono ?_
      rintro e w2 ⟨rfl, hR2, hG2⟩
      rw [two_drop, hsz]
      rw [List.drop_drop] at hR2
      have HR2 := uhid hR2
      have HL2 := uhid (HL1.out.low hG2 hrg HR.out.lo)
      clear hR2 hG2 HR1 HL1
      go_wp2_with fail
      refine (rbytes_yes w0 r sz (b.drop (p + 2 + 2)) w2 HR2.out (by rw [List.length_drop]; omega)).mono ?_
      rintro e w3 ⟨a3, c3, rfl, hP3, hR3, hG3⟩
      rw [List.drop_drop] at hR3
      have HP3 := uhid hP3
      have HR3 := uhid hR3
      have HL3 := uhid (HL2.out.low hG3 hrg HR.out.lo)
      clear hP3 hR3 hG3 HR2 HL2
      have hb3 : Below w3.heap.size w3 (w3.alloc (.cells #[.slice a3 sz c3] 79)) := (Below.refl _ _).alloc (Nat.le_refl _) _
      have hrow3 := heap_alloc_new w3 (.cells #[.slice a3 sz c3] 79)
      go_wp2_with fail
      refine (fill_any sz _ (by omega)).mono ?_
      rintro e w4 ⟨rfl, rfl⟩
      rw [hfl]
      obtain ⟨W4, hW4⟩ : ∃ W4, w3.alloc (.cells #[.slice a3 sz c3] 79) = W4 := ⟨_, rfl⟩
      rw [hW4] at hb3 hrow3
      rw [hW4]
      obtain ⟨v, hv⟩ : ∃ v, w3.heap.size = v := ⟨_, rfl⟩
      rw [hv] at hrow3
      rw [hv]
      have hgv : g < v := by rw [← hv]; exact HL3.out.lt
      have huv : ∀ j, blockOf ua = some j → j < v := fun j hj => by rw [← hv]; exact HL3.out.seg.lt j hj
      have HR4 := uhid (HR3.out.below hb3)
      have HL4 := uhid (HL3.out.later hb3)
      have hdl : ((b.drop (p + 2 + 2)).take sz).length = sz := by rw [List.length_take, List.length_drop]; omega
      have HV4 : Hid (Rd w0 v ((b.drop (p + 2 + 2)).take sz) W4) := uhid ⟨⟨a3, c3, by rw [hdl]; exact hrow3, by rw [hdl]; exact HP3.out⟩, HR4.out.bel, by have := HR.out.lo; omega⟩
      clear HR3 HL3 HP3 hb3 hrow3 hW4 hv hdl
      go_wp2_with fail
      refine (rbytes_yes w0 r fl (b.drop (p + 2 + 2 + sz)) W4 HR4.out (by rw [List.length_drop]; omega)).mono ?_
      rintro e w5 ⟨a5, c5, rfl, hP5, hR5, hG5⟩
      rw [List.drop_drop] at hR5
      have hpe : p + 2 + 2 + sz + fl = p + 4 + (sz + 3) / 4 * 4 := by omega
      rw [hpe, hq] at hR5
      have HR5 := uhid hR5
      have HL5 := uhid (HL4.out.low hG5 hrg HR.out.lo)
      have HV5 := uhid (HV4.out.kept (hG5.block v HV4.out.lt (fun e => by cases e; omega)) HR5.out.bel)
      have HUV := uhid huv
      clear hP5 hR5 hG5 HR4 HL4 HV4 hpe huv
      rw [hD] at HV5
      have hlv : w0.heap.size ≤ v := HV5.out.lo
      have hrv : r ≠ v := by omega
      have hvg : v ≠ g := by omega
      have hrgn : r ≠ g := by omega
      clear hD HR
      go_wp2_with fail
      obtain ⟨a, c, hr⟩ := HV5.out.stuck
      refine (rbytes_no v 2 a _ c w5 hr (by omega) (by omega)).mono ?_
      rintro e w11 ⟨rfl, rfl⟩
      go_wp2_with fail
      exact ⟨rfl, rfl, HV5.out.bel⟩
    · by_cases hs3 : sz < 3
      · go_enter Try.func50, Try.ntmps50
        go_wp2_with fail
        refine (rnumber_yes w0 r 2 (b.drop p) w HR.out (by decide) (by decide) (by rw [List.length_drop]; omega)).mono ?_
        rintro e w1 ⟨rfl, hR1, hG1⟩
        rw [two_drop, hkd]
        rw [List.drop_drop] at hR1
        have HR1 := uhid hR1
        have HL1 := uhid (HL.out.low hG1 hrg HR.out.lo)
        have HG1 := uhid hG1
        clear hR1 hG1
        go_wp2_with fail
        refine (rnumber_yes w0 r 2 (b.drop (p + 2)) w1 HR1.out (by decide) (by decide) (by rw [List.length_drop]; omega)).mono ?_
        rintro e w2 ⟨rfl, hR2, hG2⟩
        rw [two_drop, hsz]
        rw [List.drop_drop] at hR2
        have HR2 := uhid hR2
        have HL2 := uhid (HL1.out.low hG2 hrg HR.out.lo)
        clear hR2 hG2 HR1 HL1
        go_wp2_with fail
        refine (rbytes_yes w0 r sz (b.drop (p + 2 + 2)) w2 HR2.out (by rw [List.length_drop]; omega)).mono ?_
        rintro e w3 ⟨a3, c3, rfl, hP3, hR3, hG3⟩
        rw [List.drop_drop] at hR3
        have HP3 := uhid hP3
        have HR3 := uhid hR3
        have HL3 := uhid (HL2.out.low hG3 hrg HR.out.lo)
        clear hP3 hR3 hG3 HR2 HL2
        have hb3 : Below w3.heap.size w3 (w3.alloc (.cells #[.slice a3 sz c3] 79)) := (Below.refl _ _).alloc (Nat.le_refl _) _
        have hrow3 := heap_alloc_new w3 (.cells #[.slice a3 sz c3] 79)
        go_wp2_with fail
        refine (fill_any sz _ (by omega)).mono ?_
        rintro e w4 ⟨rfl, rfl⟩
        rw [hfl]
        obtain ⟨W4, hW4⟩ : ∃ W4, w3.alloc (.cells #[.slice a3 sz c3] 79) = W4 := ⟨_, rfl⟩
        rw [hW4] at hb3 hrow3
        rw [hW4]
        obtain ⟨v, hv⟩ : ∃ v, w3.heap.size = v := ⟨_, rfl⟩
        rw [hv] at hrow3
        rw [hv]
        have hgv : g < v := by rw [← hv]; exact HL3.out.lt
        have huv : ∀ j, blockOf ua = some j → j < v := fun j hj => by rw [← hv]; exact HL3.out.seg.lt j hj
        have HR4 := uhid (HR3.out.below hb3)
        have HL4 := uhid (HL3.out.later hb3)
        have hdl : ((b.drop (p + 2 + 2)).take sz).length = sz := by rw [List.length_take, List.length_drop]; omega
        have HV4 : Hid (Rd w0 v ((b.drop (p + 2 + 2)).take sz) W4) := uhid ⟨⟨a3, c3, by rw [hdl]; exact hrow3, by rw [hdl]; exact HP3.out⟩, HR4.out.bel, by have := HR.out.lo; omega⟩
        clear HR3 HL3 HP3 hb3 hrow3 hW4 hv hdl
        go_wp2_with fail
        refine (rbytes_yes w0 r fl (b.drop (p + 2 + 2 + sz)) W4 HR4.out (by rw [List.length_drop]; omega)).mono ?_
        rintro e w5 ⟨a5, c5, rfl, hP5, hR5, hG5⟩
        rw [List.drop_drop] at hR5
        have hpe : p + 2 + 2 + sz + fl = p + 4 + (sz + 3) / 4 * 4 := by omega
        rw [hpe, hq] at hR5
        have HR5 := uhid hR5
        have HL5 := uhid (HL4.out.low hG5 hrg HR.out.lo)
        have HV5 := uhid (HV4.out.kept (hG5.block v HV4.out.lt (fun e => by cases e; omega)) HR5.out.bel)
        have HUV := uhid huv
        clear hP5 hR5 hG5 HR4 HL4 HV4 hpe huv
        rw [hD] at HV5
        have hlv : w0.heap.size ≤ v := HV5.out.lo
        have hrv : r ≠ v := by omega
        have hvg : v ≠ g := by omega
        have hrgn : r ≠ g := by omega
        clear hD HR
        go_wp2_with fail
        refine (rbytes_yes w0 v 2 D w5 HV5.out (by omega)).mono ?_
        rintro e w6 ⟨a6, c6, rfl, hP6, hV6, hG6⟩
        have HV6 := uhid hV6
        have HR6 := uhid (HR5.out.but hG6 hrv hlv)
        have HL6 := uhid (HL5.out.but hG6 hvg (fun j hj => by have := HUV.out j hj; omega) hlv)
        clear hP6 hV6 hG6 HV5 HR5 HL5
        go_wp2_with fail
        obtain ⟨a, c, hr⟩ := HV6.out.stuck
        rw [List.length_drop] at hr
        refine (rnumber_no v 1 a _ c w6 hr (by omega) (by omega)).mono ?_
        rintro e w11 ⟨rfl, rfl⟩
        go_wp2_with fail
        exact ⟨rfl, rfl, HV6.out.bel⟩
      · go_enter Try.func50, Try.ntmps50
        go_wp2_with fail
        refine (rnumber_yes w0 r 2 (b.drop p) w HR.out (by decide) (by decide) (by rw [List.length_drop]; omega)).mono ?_
        rintro e w1 ⟨rfl, hR1, hG1⟩
        rw [two_drop, hkd]
        rw [List.drop_drop] at hR1
        have HR1 := uhid hR1
        have HL1 := uhid (HL.out.low hG1 hrg HR.out.lo)
        have HG1 := uhid hG1
        clear hR1 hG1
        go_wp2_with fail
        refine (rnumber_yes w0 r 2 (b.drop (p + 2)) w1 HR1.out (by decide) (by decide) (by rw [List.length_drop]; omega)).mono ?_
        rintro e w2 ⟨rfl, hR2, hG2⟩
        rw [two_drop, hsz]
        rw [List.drop_drop] at hR2
        have HR2 := uhid hR2
        have HL2 := uhid (HL1.out.low hG2 hrg HR.out.lo)
        clear hR2 hG2 HR1 HL1
        go_wp2_with fail
        refine (rbytes_yes w0 r sz (b.drop (p + 2 + 2)) w2 HR2.out (by rw [List.length_drop]; omega)).mono ?_
        rintro e w3 ⟨a3, c3, rfl, hP3, hR3, hG3⟩
        rw [List.drop_drop] at hR3
        have HP3 := uhid hP3
        have HR3 := uhid hR3
        have HL3 := uhid (HL2.out.low hG3 hrg HR.out.lo)
        clear hP3 hR3 hG3 HR2 HL2
        have hb3 : Below w3.heap.size w3 (w3.alloc (.cells #[.slice a3 sz c3] 79)) := (Below.refl _ _).alloc (Nat.le_refl _) _
        have hrow3 := heap_alloc_new w3 (.cells #[.slice a3 sz c3] 79)
        go_wp2_with fail
        refine (fill_any sz _ (by omega)).mono ?_
        rintro e w4 ⟨rfl, rfl⟩
        rw [hfl]
        obtain ⟨W4, hW4⟩ : ∃ W4, w3.alloc (.cells #[.slice a3 sz c3] 79) = W4 := ⟨_, rfl⟩
        rw [hW4] at hb3 hrow3
        rw [hW4]
        obtain ⟨v, hv⟩ : ∃ v, w3.heap.size = v := ⟨_, rfl⟩
        rw [hv] at hrow3
        rw [hv]
        have hgv : g < v := by rw [← hv]; exact HL3.out.lt
        have huv : ∀ j, blockOf ua = some j → j < v := fun j hj => by rw [← hv]; exact HL3.out.seg.lt j hj
        have HR4 := uhid (HR3.out.below hb3)
        have HL4 := uhid (HL3.out.later hb3)
        have hdl : ((b.drop (p + 2 + 2)).take sz).length = sz := by rw [List.length_take, List.length_drop]; omega
        have HV4 : Hid (Rd w0 v ((b.drop (p + 2 + 2)).take sz) W4) := uhid ⟨⟨a3, c3, by rw [hdl]; exact hrow3, by rw [hdl]; exact HP3.out⟩, HR4.out.bel, by have := HR.out.lo; omega⟩
        clear HR3 HL3 HP3 hb3 hrow3 hW4 hv hdl
        go_wp2_with fail
        refine (rbytes_yes w0 r fl (b.drop (p + 2 + 2 + sz)) W4 HR4.out (by rw [List.length_drop]; omega)).mono ?_
        rintro e w5 ⟨a5, c5, rfl, hP5, hR5, hG5⟩
        rw [List.drop_drop] at hR5
        have hpe : p + 2 + 2 + sz + fl = p + 4 + (sz + 3) / 4 * 4 := by omega
        rw [hpe, hq] at hR5
        have HR5 := uhid hR5
        have HL5 := uhid (HL4.out.low hG5 hrg HR.out.lo)
        have HV5 := uhid (HV4.out.kept (hG5.block v HV4.out.lt (fun e => by cases e; omega)) HR5.out.bel)
        have HUV := uhid huv
        clear hP5 hR5 hG5 HR4 HL4 HV4 hpe huv
        rw [hD] at HV5
        have hlv : w0.heap.size ≤ v := HV5.out.lo
        have hrv : r ≠ v := by omega
        have hvg : v ≠ g := by omega
        have hrgn : r ≠ g := by omega
        clear hD HR
        go_wp2_with fail
        refine (rbytes_yes w0 v 2 D w5 HV5.out (by omega)).mono ?_
        rintro e w6 ⟨a6, c6, rfl, hP6, hV6, hG6⟩
        have HV6 := uhid hV6
        have HR6 := uhid (HR5.out.but hG6 hrv hlv)
        have HL6 := uhid (HL5.out.but hG6 hvg (fun j hj => by have := HUV.out j hj; omega) hlv)
        clear hP6 hV6 hG6 HV5 HR5 HL5
        go_wp2_with fail
        refine (rnumber_yes w0 v 1 (D.drop 2) w6 HV6.out (by decide) (by decide) (by rw [List.length_drop]; omega)).mono ?_
        rintro e w7 ⟨rfl, hV7, hG7⟩
        rw [getV_drop, getV_one D 2 (by omega)]
        rw [List.drop_drop] at hV7
        obtain ⟨N1, hN1⟩ : ∃ N1, (at8 D 2).toNat = N1 := ⟨_, rfl⟩
        have h256 : N1 < 256 := by rw [← hN1]; exact (at8 D 2).toNat_lt
        rw [hN1]
        have HN1 := uhid hN1
        have HV7 := uhid hV7
        have HR7 := uhid (HR6.out.but hG7 hrv hlv)
        have HL7 := uhid (HL6.out.but hG7 hvg (fun j hj => by have := HUV.out j hj; omega) hlv)
        have q16 : w7.cell? ⟨g, 16, none⟩ = some (.int .i64 m.code) := HL7.out.cell 16 _ rfl
        have f16 := HL7.out.frozen 16
        have HL8 : Hid (Lm w0 g { m with code := 100 * (N1 : Int) } ua uc (w7.setCell ⟨g, 16, none⟩ (.int .i64 (100 * (N1 : Int))))) := uhid (HL7.out.upd 16 _ { m with code := 100 * (N1 : Int) } rfl rfl)
        have HR8 : Hid (Rd w0 r (b.drop q) (w7.setCell ⟨g, 16, none⟩ (.int .i64 (100 * (N1 : Int))))) := uhid (HR7.out.away hrgn hgw _)
        have HV8 : Hid (Rd w0 v (D.drop (2 + 1)) (w7.setCell ⟨g, 16, none⟩ (.int .i64 (100 * (N1 : Int))))) := uhid (HV7.out.away hvg hgw _)
        clear hN1 hV7 hG7 HV6 HR6 HL6 HR7 HL7 HV7
        go_wp2_with fail
        obtain ⟨W8, hW8⟩ : ∃ W8, (w7.setCell ⟨g, 16, none⟩ (.int .i64 (100 * (N1 : Int)))).drew = W8 := ⟨_, rfl⟩
        have hdr : Below (w7.setCell ⟨g, 16, none⟩ (.int .i64 (100 * (N1 : Int)))).heap.size (w7.setCell ⟨g, 16, none⟩ (.int .i64 (100 * (N1 : Int)))) W8 := by rw [← hW8]; exact (Below.refl _ _).drew
        have HL9 := uhid (HL8.out.later hdr)
        have HR9 := uhid (HR8.out.below hdr)
        have HV9 := uhid (HV8.out.below hdr)
        clear hdr HL8 HR8 HV8 q16 f16
        obtain ⟨C1, hC1⟩ : ∃ C1, 100 * (N1 : Int) = C1 := ⟨_, rfl⟩
        rw [hC1] at HL9 hW8
        rw [hC1]
        have hC19 : 0 ≤ C1 ∧ C1 ≤ 25500 := by omega
        have HC1 := uhid hC1
        clear hC1
        have hgl9 := HL9.out.lt
        have q16 : W8.cell? ⟨g, 16, none⟩ = some (.int .i64 C1) := HL9.out.cell 16 _ rfl
        refine wp_region_sched (G := But v) (by kernel_rfl) (But.refl v) (But.trans v) (by kernel_rfl) (fun c a w d v h => by cases d <;> exact h) [(0, true), (1, true), (2, true), (3, true), (4, false), (5, true), (6, true), (7, true), (8, false)] rfl (by kernel_rfl) ?_
        show wpSched _ _ _ _ _ _ _ (World.drew _)
        rw [hW8]
        clear hW8
        iterate 3 (refine sched_take rfl (by rfl) (v := ?_) ?_ ?_; rotate_left; (intro w' hw'; clear hw'; go_simp; with_reducible rfl); go_simp)
        refine sched_take rfl (by rfl) (v := .int .i64 C1) (fun w' hw' => by
          have q1 : w'.cell? ⟨g, 16, none⟩ = some (.int .i64 C1) := by rw [World.cell?_of_block (hw'.block g hgl9 (fun e => by cases e; omega))]; exact q16
          clear hw'
          go_simp) ?_
        go_simp
        refine sched_panic (f := 47) (args := #[.pointer (some ⟨v, 0, none⟩), .int .i64 1]) rfl (by rfl) (by go_simp) ?_
        obtain ⟨a, c, hr⟩ := HV9.out.stuck
        rw [List.length_drop] at hr
        refine (rnumber_no v 1 a _ c W8 hr (by omega) (by omega)).mono ?_
        rintro e w11 ⟨rfl, rfl⟩
        refine ⟨_, rfl, ?_⟩
        exact ⟨rfl, rfl, HV9.out.bel⟩
  · have hx : x = some { m with code := ((at8 D 2).toNat : Int) * 100 + ((at8 D 3).toNat : Int), reason := D.drop 4 } := by rw [← HM.out]; unfold SM.hstep; simp [hDl, hs]
    subst hx
    clear HM
    go_enter Try.func50, Try.ntmps50
    go_wp2_with fail
    refine (rnumber_yes w0 r 2 (b.drop p) w HR.out (by decide) (by decide) (by rw [List.length_drop]; omega)).mono ?_
    rintro e w1 ⟨rfl, hR1, hG1⟩
    rw [two_drop, hkd]
    rw [List.drop_drop] at hR1
    have HR1 := uhid hR1
    have HL1 := uhid (HL.out.low hG1 hrg HR.out.lo)
    have HG1 := uhid hG1
    clear hR1 hG1
    go_wp2_with fail
    refine (rnumber_yes w0 r 2 (b.drop (p + 2)) w1 HR1.out (by decide) (by decide) (by rw [List.length_drop]; omega)).mono ?_
    rintro e w2 ⟨rfl, hR2, hG2⟩
    rw [two_drop, hsz]
    rw [List.drop_drop] at hR2
    have HR2 := uhid hR2
    have HL2 := uhid (HL1.out.low hG2 hrg HR.out.lo)
    clear hR2 hG2 HR1 HL1
    go_wp2_with fail
    refine (rbytes_yes w0 r sz (b.drop (p + 2 + 2)) w2 HR2.out (by rw [List.length_drop]; omega)).mono ?_
    rintro e w3 ⟨a3, c3, rfl, hP3, hR3, hG3⟩
    rw [List.drop_drop] at hR3
    have HP3 := uhid hP3
    have HR3 := uhid hR3
    have HL3 := uhid (HL2.out.low hG3 hrg HR.out.lo)
    clear hP3 hR3 hG3 HR2 HL2
    have hb3 : Below w3.heap.size w3 (w3.alloc (.cells #[.slice a3 sz c3] 79)) := (Below.refl _ _).alloc (Nat.le_refl _) _
    have hrow3 := heap_alloc_new w3 (.cells #[.slice a3 sz c3] 79)
    go_wp2_with fail
    refine (fill_any sz _ (by omega)).mono ?_
    rintro e w4 ⟨rfl, rfl⟩
    rw [hfl]
    obtain ⟨W4, hW4⟩ : ∃ W4, w3.alloc (.cells #[.slice a3 sz c3] 79) = W4 := ⟨_, rfl⟩
    rw [hW4] at hb3 hrow3
    rw [hW4]
    obtain ⟨v, hv⟩ : ∃ v, w3.heap.size = v := ⟨_, rfl⟩
    rw [hv] at hrow3
    rw [hv]
    have hgv : g < v := by rw [← hv]; exact HL3.out.lt
    have huv : ∀ j, blockOf ua = some j → j < v := fun j hj => by rw [← hv]; exact HL3.out.seg.lt j hj
    have HR4 := uhid (HR3.out.below hb3)
    have HL4 := uhid (HL3.out.later hb3)
    have hdl : ((b.drop (p + 2 + 2)).take sz).length = sz := by rw [List.length_take, List.length_drop]; omega
    have HV4 : Hid (Rd w0 v ((b.drop (p + 2 + 2)).take sz) W4) := uhid ⟨⟨a3, c3, by rw [hdl]; exact hrow3, by rw [hdl]; exact HP3.out⟩, HR4.out.bel, by have := HR.out.lo; omega⟩
    clear HR3 HL3 HP3 hb3 hrow3 hW4 hv hdl
    go_wp2_with fail
    refine (rbytes_yes w0 r fl (b.drop (p + 2 + 2 + sz)) W4 HR4.out (by rw [List.length_drop]; omega)).mono ?_
    rintro e w5 ⟨a5, c5, rfl, hP5, hR5, hG5⟩
    rw [List.drop_drop] at hR5
    have hpe : p + 2 + 2 + sz + fl = p + 4 + (sz + 3) / 4 * 4 := by omega
    rw [hpe, hq] at hR5
    have HR5 := uhid hR5
    have HL5 := uhid (HL4.out.low hG5 hrg HR.out.lo)
    have HV5 := uhid (HV4.out.kept (hG5.block v HV4.out.lt (fun e => by cases e; omega)) HR5.out.bel)
    have HUV := uhid huv
    clear hP5 hR5 hG5 HR4 HL4 HV4 hpe huv
    rw [hD] at HV5
    have hlv : w0.heap.size ≤ v := HV5.out.lo
    have hrv : r ≠ v := by omega
    have hvg : v ≠ g := by omega
    have hrgn : r ≠ g := by omega
    clear hD HR
    go_wp2_with fail
    refine (rbytes_yes w0 v 2 D w5 HV5.out (by omega)).mono ?_
    rintro e w6 ⟨a6, c6, rfl, hP6, hV6, hG6⟩
    have HV6 := uhid hV6
    have HR6 := uhid (HR5.out.but hG6 hrv hlv)
    have HL6 := uhid (HL5.out.but hG6 hvg (fun j hj => by have := HUV.out j hj; omega) hlv)
    clear hP6 hV6 hG6 HV5 HR5 HL5
    go_wp2_with fail
    refine (rnumber_yes w0 v 1 (D.drop 2) w6 HV6.out (by decide) (by decide) (by rw [List.length_drop]; omega)).mono ?_
    rintro e w7 ⟨rfl, hV7, hG7⟩
    rw [getV_drop, getV_one D 2 (by omega)]
    rw [List.drop_drop] at hV7
    obtain ⟨N1, hN1⟩ : ∃ N1, (at8 D 2).toNat = N1 := ⟨_, rfl⟩
    have h256 : N1 < 256 := by rw [← hN1]; exact (at8 D 2).toNat_lt
    rw [hN1]
    have HN1 := uhid hN1
    have HV7 := uhid hV7
    have HR7 := uhid (HR6.out.but hG7 hrv hlv)
    have HL7 := uhid (HL6.out.but hG7 hvg (fun j hj => by have := HUV.out j hj; omega) hlv)
    have q16 : w7.cell? ⟨g, 16, none⟩ = some (.int .i64 m.code) := HL7.out.cell 16 _ rfl
    have f16 := HL7.out.frozen 16
    have HL8 : Hid (Lm w0 g { m with code := 100 * (N1 : Int) } ua uc (w7.setCell ⟨g, 16, none⟩ (.int .i64 (100 * (N1 : Int))))) := uhid (HL7.out.upd 16 _ { m with code := 100 * (N1 : Int) } rfl rfl)
    have HR8 : Hid (Rd w0 r (b.drop q) (w7.setCell ⟨g, 16, none⟩ (.int .i64 (100 * (N1 : Int))))) := uhid (HR7.out.away hrgn hgw _)
    have HV8 : Hid (Rd w0 v (D.drop (2 + 1)) (w7.setCell ⟨g, 16, none⟩ (.int .i64 (100 * (N1 : Int))))) := uhid (HV7.out.away hvg hgw _)
    clear hN1 hV7 hG7 HV6 HR6 HL6 HR7 HL7 HV7
    go_wp2_with fail
    obtain ⟨W8, hW8⟩ : ∃ W8, (w7.setCell ⟨g, 16, none⟩ (.int .i64 (100 * (N1 : Int)))).drew = W8 := ⟨_, rfl⟩
    have hdr : Below (w7.setCell ⟨g, 16, none⟩ (.int .i64 (100 * (N1 : Int)))).heap.size (w7.setCell ⟨g, 16, none⟩ (.int .i64 (100 * (N1 : Int)))) W8 := by rw [← hW8]; exact (Below.refl _ _).drew
    have HL9 := uhid (HL8.out.later hdr)
    have HR9 := uhid (HR8.out.below hdr)
    have HV9 := uhid (HV8.out.below hdr)
    clear hdr HL8 HR8 HV8 q16 f16
    obtain ⟨C1, hC1⟩ : ∃ C1, 100 * (N1 : Int) = C1 := ⟨_, rfl⟩
    rw [hC1] at HL9 hW8
    rw [hC1]
    have hC19 : 0 ≤ C1 ∧ C1 ≤ 25500 := by omega
    have HC1 := uhid hC1
    clear hC1
    have hgl9 := HL9.out.lt
    have q16 : W8.cell? ⟨g, 16, none⟩ = some (.int .i64 C1) := HL9.out.cell 16 _ rfl
    refine wp_region_last (G := But v) (by kernel_rfl) (But.refl v) (But.trans v) (by kernel_rfl) [(0, true), (1, true), (2, true), (3, true), (4, false), (5, true), (6, true), (7, true)] 8 _ rfl ((Array.replicate 9 false).mapIdx fun i _ => i < 8) rfl (by kernel_rfl) (by kernel_rfl) (by kernel_rfl) (by kernel_rfl) ?_
    intro KK hKK
    rw [hW8]
    clear hW8
    iterate 3 (refine sched_take rfl (by rfl) (v := ?_) ?_ ?_; rotate_left; (intro w' hw'; clear hw'; go_simp; with_reducible rfl); go_simp)
    refine sched_take rfl (by rfl) (v := .int .i64 C1) (fun w' hw' => by
      have q1 : w'.cell? ⟨g, 16, none⟩ = some (.int .i64 C1) := by rw [World.cell?_of_block (hw'.block g hgl9 (fun e => by cases e; omega))]; exact q16
      clear hw'
      go_simp) ?_
    go_simp
    refine sched_call (f := 47) (args := #[.pointer (some ⟨v, 0, none⟩), .int .i64 1]) rfl (by rfl) (by go_simp) ?_
    refine (rnumber_yes w0 v 1 (D.drop (2 + 1)) W8 HV9.out (by decide) (by decide) (by rw [List.length_drop]; omega)).mono ?_
    rintro e w10 ⟨rfl, hV10, hG10⟩
    rw [getV_drop, getV_one D (2 + 1) (by omega)]
    rw [List.drop_drop] at hV10
    obtain ⟨N2, hN2⟩ : ∃ N2, (at8 D (2 + 1)).toNat = N2 := ⟨_, rfl⟩
    have h2562 : N2 < 256 := by rw [← hN2]; exact (at8 D (2 + 1)).toNat_lt
    rw [hN2]
    refine ⟨_, rfl, hG10, ?_⟩
    have HN2 := uhid hN2
    have HV10 := uhid hV10
    have HR10 := uhid (HR9.out.but hG10 hrv hlv)
    have HL10 := uhid (HL9.out.but hG10 hvg (fun j hj => by have := HUV.out j hj; omega) hlv)
    have hwS : IntKind.i64.wrap (C1 + (N2 : Int)) = C1 + (N2 : Int) := by rw [IntKind.wrap_i64]; omega
    obtain ⟨C2, hC2⟩ : ∃ C2, C1 + (N2 : Int) = C2 := ⟨_, rfl⟩
    rw [hC2] at hwS
    have r16 : w10.cell? ⟨g, 16, none⟩ = some (.int .i64 C1) := HL10.out.cell 16 _ rfl
    have s16 := HL10.out.frozen 16
    have HL11 : Hid (Lm w0 g { m with code := C2 } ua uc (w10.setCell ⟨g, 16, none⟩ (.int .i64 C2))) := uhid (HL10.out.upd 16 _ { m with code := C2 } rfl rfl)
    have HR11 : Hid (Rd w0 r (b.drop q) (w10.setCell ⟨g, 16, none⟩ (.int .i64 C2))) := uhid (HR10.out.away hrgn hgw _)
    have HV11 : Hid (Rd w0 v (D.drop (2 + 1 + 1)) (w10.setCell ⟨g, 16, none⟩ (.int .i64 C2))) := uhid (HV10.out.away hvg hgw _)
    have HC2 := uhid hC2
    clear hN2 hV10 hG10 HR10 HL10 HV10 HR9 HL9 HV9 q16
    go_simp
    iterate 3 (refine sched_take rfl (by rfl) (v := ?_) ?_ ?_; rotate_left; (intro w' hw'; clear hw'; go_simp; with_reducible rfl); go_simp)
    have hst : w10.setCell ⟨g, 16, none⟩ (.int .i64 C2) = w10.setCell ⟨g, 16, none⟩ (.int .i64 C2) := rfl
    obtain ⟨Z, hZ⟩ : ∃ Z, w10.setCell ⟨g, 16, none⟩ (.int .i64 C2) = Z := ⟨_, rfl⟩
    rw [hZ] at HL11 HR11 HV11
    refine hKK.out _ _ Z (by rfl) (by rw [← hZ]; go_simp; try rfl) ?_
    clear hZ hwS hC2 r16 s16 hst
    clear hKK
    go_simp
    obtain ⟨a6', c6', hrow6, hP6⟩ := HV11.out.row
    have hd4 : (D.drop (2 + 1 + 1)).length = sz - 4 := by rw [List.length_drop]; omega
    have q6 : Z.cell? ⟨v, 0, none⟩ = some (.slice a6' (sz - 4) c6') := by rw [cell_of_row Z v 0 _ _ (0, 0) hrow6, hd4]; rfl
    have hcv := conv_bytes Z a6' (sz - 4) c6' (D.drop (2 + 1 + 1)) (by have := hP6.byt.later HV11.out.bel; rwa [hd4] at this)
    obtain ⟨R, hRr⟩ : ∃ R, D.drop (2 + 1 + 1) = R := ⟨_, rfl⟩
    rw [hRr] at hcv
    have HRr := uhid hRr
    obtain ⟨s4, hs4⟩ : ∃ s4, sz - 4 = s4 := ⟨_, rfl⟩
    rw [hs4] at hcv q6
    have q17 : Z.cell? ⟨g, 17, none⟩ = some (.string (S m.reason)) := HL11.out.cell 17 _ rfl
    have f17 := HL11.out.frozen 17
    have HL12 : Hid (Lm w0 g { m with code := C2, reason := R } ua uc (Z.setCell ⟨g, 17, none⟩ (.string (S R)))) := uhid (HL11.out.upd 17 _ { m with code := C2, reason := R } rfl rfl)
    have HR12 : Hid (Rd w0 r (b.drop q) (Z.setCell ⟨g, 17, none⟩ (.string (S R)))) := uhid (HR11.out.away hrgn hgw _)
    clear hrow6 hP6 hd4 hRr hs4 HV11 HL11 HR11
    go_wp2_with fail
    refine bodyPost_end (results_none rfl _ _ _) rfl ?_
    refine ⟨⟨_, rfl⟩, ua, uc, HR12.out, ?_⟩
    have e1 : ((at8 D 2).toNat : Int) * 100 + ((at8 D 3).toNat : Int) = C2 := by
      have a1 := HN1.out
      have a2 : (at8 D 3).toNat = N2 := HN2.out
      have a3 := HC1.out
      have a4 := HC2.out
      rw [a1, a2]
      omega
    have e2 : D.drop 4 = R := HRr.out
    have h10 := HL12.out
    rw [e1, e2]
    exact h10
end Go.Proofs.Ytejbhjcopldekaa
