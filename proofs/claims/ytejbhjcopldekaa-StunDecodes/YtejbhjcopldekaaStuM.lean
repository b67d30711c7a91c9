/- The program's attribute: one of them is read (stage 12; written by tools/mkstuhear.py). -/
import Derived.Test.YtejbhjcopldekaaStuL
namespace Go.Proofs.Ytejbhjcopldekaa
set_option linter.unusedVariables false
set_option maxRecDepth 100000
open Go.RowKit

theorem two_drop (b : List UInt8) (p : Nat) : getV (b.drop p) true 0 2 = sTwo b p := by
  unfold sTwo getV cutB
  simp
theorem Rd.below {w0 W W' : World} {r : Nat} {l : List UInt8} (h : Rd w0 r l W) (hb : Below W.heap.size W W') : Rd w0 r l W' := h.kept (hb.block r h.lt) (h.bel.trans (hb.mono h.bel.size))
theorem sTwo_lt9 (b : List UInt8) (p : Nat) : sTwo b p < 65536 := getV_lt b p 2

set_option maxHeartbeats 2000000 in
theorem attr_short (w0 : World) (r g p : Nat) (b : List UInt8) (m : SM) (ua : Option Addr) (uc : Nat) (w : World) (hR : Rd w0 r (b.drop p) w) (hL : Lm w0 g m ua uc w) (hrg : r < g) (hb : b.length ≤ 1000)
    (h : b.length < p + 4 ∨ b.length < p + 4 + (sTwo b (p + 2) + 3) / 4 * 4) :
    Calls Try.prog 50 #[.pointer (some ⟨r, 0, none⟩), .pointer (some ⟨g, 0, none⟩)] w fun e w' => e = span 2 ∧ Below w0.heap.size w0 w' := by
  have HR := uhid hR
  have HL := uhid hL
  obtain ⟨kd, hkd⟩ : ∃ kd, sTwo b p = kd := ⟨_, rfl⟩
  obtain ⟨sz, hsz⟩ : ∃ sz, sTwo b (p + 2) = sz := ⟨_, rfl⟩
  have hkd9 : kd < 65536 := by rw [← hkd]; exact sTwo_lt9 b p
  have hsz9 : sz < 65536 := by rw [← hsz]; exact sTwo_lt9 b (p + 2)
  obtain ⟨fl, hfl⟩ : ∃ fl, (4 - sz % 4) % 4 = fl := ⟨_, rfl⟩
  rw [hsz] at h
  clear hR hL
  by_cases h2 : b.length < p + 2
  · obtain ⟨a, c, hr⟩ := HR.out.stuck
    rw [List.length_drop] at hr
    clear h
    go_enter Try.func50, Try.ntmps50
    go_wp2_with fail
    refine (rnumber_no r 2 a _ c w hr (by omega) (by omega)).mono ?_
    rintro e w1 ⟨rfl, rfl⟩
    go_wp2_with fail
    exact ⟨rfl, rfl, HR.out.bel⟩
  · by_cases h4 : b.length < p + 4
    · clear h
      go_enter Try.func50, Try.ntmps50
      go_wp2_with fail
      refine (rnumber_yes w0 r 2 (b.drop p) w HR.out (by decide) (by decide) (by rw [List.length_drop]; omega)).mono ?_
      rintro e w1 ⟨rfl, hR1, hG1⟩
      rw [two_drop, hkd]
      rw [List.drop_drop] at hR1
      have HR1 := uhid hR1
      have HL1 := uhid (HL.out.low hG1 hrg HR.out.lo)
      have HG1 := uhid hG1
      clear hR1 hG1
      go_wp2_with fail
      obtain ⟨a, c, hr⟩ := HR1.out.stuck
      rw [List.length_drop] at hr
      refine (rnumber_no r 2 a _ c w1 hr (by omega) (by omega)).mono ?_
      rintro e w2 ⟨rfl, rfl⟩
      go_wp2_with fail
      exact ⟨rfl, rfl, HR1.out.bel⟩
    · have h5 : b.length < p + 4 + (sz + 3) / 4 * 4 := h.resolve_left h4
      clear h
      by_cases h6 : b.length < p + 4 + sz
      · go_enter Try.func50, Try.ntmps50
        go_wp2_with fail
        refine (rnumber_yes w0 r 2 (b.drop p) w HR.out (by decide) (by decide) (by rw [List.length_drop]; omega)).mono ?_
        rintro e w1 ⟨rfl, hR1, hG1⟩
        rw [two_drop, hkd]
        rw [List.drop_drop] at hR1
        have HR1 := uhid hR1
        have HL1 := uhid (HL.out.low hG1 hrg HR.out.lo)
        have HG1 := uhid hG1
        clear hR1 hG1
        go_wp2_with fail
        refine (rnumber_yes w0 r 2 (b.drop (p + 2)) w1 HR1.out (by decide) (by decide) (by rw [List.length_drop]; omega)).mono ?_
        rintro e w2 ⟨rfl, hR2, hG2⟩
        rw [two_drop, hsz]
        rw [List.drop_drop] at hR2
        have HR2 := uhid hR2
        have HL2 := uhid (HL1.out.low hG2 hrg HR.out.lo)
        clear hR2 hG2 HR1 HL1
        go_wp2_with fail
        obtain ⟨a, c, hr⟩ := HR2.out.stuck
        rw [List.length_drop] at hr
        refine (rbytes_no r sz a _ c w2 hr (by omega) (by omega)).mono ?_
        rintro e w3 ⟨rfl, rfl⟩
        go_wp2_with fail
        exact ⟨rfl, rfl, HR2.out.bel⟩
      · go_enter Try.func50, Try.ntmps50
        go_wp2_with fail
        refine (rnumber_yes w0 r 2 (b.drop p) w HR.out (by decide) (by decide) (by rw [List.length_drop]; omega)).mono ?_
        rintro e w1 ⟨rfl, hR1, hG1⟩
        rw [two_drop, hkd]
        rw [List.drop_drop] at hR1
        have HR1 := uhid hR1
        have HL1 := uhid (HL.out.low hG1 hrg HR.out.lo)
        have HG1 := uhid hG1
        clear hR1 hG1
        go_wp2_with fail
        refine (rnumber_yes w0 r 2 (b.drop (p + 2)) w1 HR1.out (by decide) (by decide) (by rw [List.length_drop]; omega)).mono ?_
        rintro e w2 ⟨rfl, hR2, hG2⟩
        rw [two_drop, hsz]
        rw [List.drop_drop] at hR2
        have HR2 := uhid hR2
        have HL2 := uhid (HL1.out.low hG2 hrg HR.out.lo)
        clear hR2 hG2 HR1 HL1
        go_wp2_with fail
        refine (rbytes_yes w0 r sz (b.drop (p + 2 + 2)) w2 HR2.out (by rw [List.length_drop]; omega)).mono ?_
        rintro e w3 ⟨a3, c3, rfl, hP3, hR3, hG3⟩
        rw [List.drop_drop] at hR3
        have HP3 := uhid hP3
        have HR3 := uhid hR3
        have HL3 := uhid (HL2.out.low hG3 hrg HR.out.lo)
        clear hP3 hR3 hG3 HR2 HL2
        have hb3 : Below w3.heap.size w3 (w3.alloc (.cells #[.slice a3 sz c3] 79)) := (Below.refl _ _).alloc (Nat.le_refl _) _
        have hrow3 := heap_alloc_new w3 (.cells #[.slice a3 sz c3] 79)
        go_wp2_with fail
        refine (fill_any sz _ (by omega)).mono ?_
        rintro e w4 ⟨rfl, rfl⟩
        rw [hfl]
        obtain ⟨W4, hW4⟩ : ∃ W4, w3.alloc (.cells #[.slice a3 sz c3] 79) = W4 := ⟨_, rfl⟩
        rw [hW4] at hb3 hrow3
        rw [hW4]
        obtain ⟨v, hv⟩ : ∃ v, w3.heap.size = v := ⟨_, rfl⟩
        rw [hv] at hrow3
        rw [hv]
        have hgv : g < v := by rw [← hv]; exact HL3.out.lt
        have huv : ∀ j, blockOf ua = some j → j < v := fun j hj => by rw [← hv]; exact HL3.out.seg.lt j hj
        have HR4 := uhid (HR3.out.below hb3)
        have HL4 := uhid (HL3.out.later hb3)
        have hdl : ((b.drop (p + 2 + 2)).take sz).length = sz := by rw [List.length_take, List.length_drop]; omega
        have HV4 : Hid (Rd w0 v ((b.drop (p + 2 + 2)).take sz) W4) := uhid ⟨⟨a3, c3, by rw [hdl]; exact hrow3, by rw [hdl]; exact HP3.out⟩, HR4.out.bel, by have := HR.out.lo; omega⟩
        clear HR3 HL3 HP3 hb3 hrow3 hW4 hv hdl
        go_wp2_with fail
        obtain ⟨a, c, hr⟩ := HR4.out.stuck
        rw [List.length_drop] at hr
        refine (rbytes_no r fl a _ c W4 hr (by omega) (by omega)).mono ?_
        rintro e w5 ⟨rfl, rfl⟩
        go_wp2_with fail
        exact ⟨rfl, rfl, HR4.out.bel⟩
end Go.Proofs.Ytejbhjcopldekaa
