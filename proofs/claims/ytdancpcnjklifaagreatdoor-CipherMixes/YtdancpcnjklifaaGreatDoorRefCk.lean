/- The walks over the document's Mixer (stage 9): MixHash, MixKey, Seal, Open. -/
import Derived.Test.YtdancpcnjklifaaGreatDoorRefCj
import Derived.Test.YtdancpcnjklifaaGreatDoorRefKx
import Derived.Test.YtdancpcnjklifaaGreatDoorRefBx
import Derived.Test.YtdancpcnjklifaaGreatDoorBytB
import Derived.Test.YtdancpcnjklifaaGreatDoorSchedV
namespace Go.Proofs.YtdancpcnjklifaaGreatDoor
set_option linter.unusedVariables false
set_option maxRecDepth 100000
open Go.RowKit

/-- The cells of a document's mixer. -/
def rmV (cb co cc hb ho hc kb ko kc : Nat) (has : Bool) (n : Nat) : List Value := [.slice (some ⟨cb, co, none⟩) 32 cc, .slice (some ⟨hb, ho, none⟩) 32 hc, .slice (some ⟨kb, ko, none⟩) 32 kc, .bool has, .int .u64 (n : Int)]
structure RM (w : World) (g cb co cc hb ho hc kb ko kc : Nat) (chain hash key : List UInt8) (has : Bool) (n : Nat) : Prop where
  row : w.heap[g]? = some (.cells (rmV cb co cc hb ho hc kb ko kc has n).toArray 45 (0, 0))
  cl : 32 ≤ cc
  hl : 32 ≤ hc
  kl : 32 ≤ kc
  kh : kc ≤ 9223372036854775807
  cB : Byt w (some ⟨cb, co, none⟩) 32 chain
  hB : Byt w (some ⟨hb, ho, none⟩) 32 hash
  kB : Byt w (some ⟨kb, ko, none⟩) 32 key
  cg : cb ≠ g
  hg : hb ≠ g
  kg : kb ≠ g
/-- The same, wherever its rows lie, but not in the block x. -/
def RMx (w : World) (g x : Nat) (chain hash key : List UInt8) (has : Bool) (n : Nat) : Prop := ∃ cb co cc hb ho hc kb ko kc, RM w g cb co cc hb ho hc kb ko kc chain hash key has n ∧ cb ≠ x ∧ hb ≠ x ∧ kb ≠ x
section
variable {w w' : World} {g cb co cc hb ho hc kb ko kc : Nat} {chain hash key : List UInt8} {has : Bool} {n : Nat}
theorem RM.lt (x : RM w g cb co cc hb ho hc kb ko kc chain hash key has n) : g < w.heap.size := (Array.getElem?_eq_some_iff.1 x.row).1
theorem RM.later (x : RM w g cb co cc hb ho hc kb ko kc chain hash key has n) (hb' : Below w.heap.size w w') : RM w' g cb co cc hb ho hc kb ko kc chain hash key has n :=
  ⟨row_later x.row hb', x.cl, x.hl, x.kl, x.kh, x.cB.later hb', x.hB.later hb', x.kB.later hb', x.cg, x.hg, x.kg⟩
theorem RM.cells (x : RM w g cb co cc hb ho hc kb ko kc chain hash key has n) :
    w.cell? ⟨g, 0, none⟩ = some (.slice (some ⟨cb, co, none⟩) 32 cc) ∧ w.cell? ⟨g, 1, none⟩ = some (.slice (some ⟨hb, ho, none⟩) 32 hc) ∧ w.cell? ⟨g, 2, none⟩ = some (.slice (some ⟨kb, ko, none⟩) 32 kc) ∧
    w.frozen? ⟨g, 0, none⟩ = false ∧ w.frozen? ⟨g, 1, none⟩ = false ∧ w.frozen? ⟨g, 2, none⟩ = false :=
  ⟨row_cell x.row rfl, row_cell x.row rfl, row_cell x.row rfl, frozen_of_row w g _ _ _ x.row, frozen_of_row w g _ _ _ x.row, frozen_of_row w g _ _ _ x.row⟩
theorem RM.rc (x : RM w g cb co cc hb ho hc kb ko kc chain hash key has n) : RC w g 2 45 (rmV cb co cc hb ho hc kb ko kc has n) kb ko kc key has n :=
  ⟨x.row, rfl, rfl, rfl, x.kl, x.kh, x.kB, x.kg⟩
theorem RM.setHash (x : RM w g cb co cc hb ho hc kb ko kc chain hash key has n) (hb' ho' hc' : Nat) (hash' : List UInt8) (hl' : 32 ≤ hc') (hB' : Byt w (some ⟨hb', ho', none⟩) 32 hash') (hg' : hb' ≠ g) :
    RM (w.setCell ⟨g, 1, none⟩ (.slice (some ⟨hb', ho', none⟩) 32 hc')) g cb co cc hb' ho' hc' kb ko kc chain hash' key has n :=
  ⟨by have := row_set x.row 1 (.slice (some ⟨hb', ho', none⟩) 32 hc'); exact this, x.cl, hl', x.kl, x.kh, x.cB.but (But.setCell w g _ _) x.cg, hB'.but (But.setCell w g _ _) hg', x.kB.but (But.setCell w g _ _) x.kg, x.cg, hg', x.kg⟩
/-- Its cipher turned; all else stays. -/
theorem RM.turned (x : RM w g cb co cc hb ho hc kb ko kc chain hash key has n) {m : Nat} (hG : w.grownBy w' (some g)) (h : RC w' g 2 45 ((rmV cb co cc hb ho hc kb ko kc has n).set (2 + 2) (.int .u64 (m : Int))) kb ko kc key has m) :
    RM w' g cb co cc hb ho hc kb ko kc chain hash key has m :=
  ⟨by have := h.row; exact this, x.cl, x.hl, x.kl, x.kh, x.cB.but hG x.cg, x.hB.but hG x.hg, h.key, x.cg, x.hg, x.kg⟩
end
theorem byt_any9 {w w' : World} {a : Option Addr} {n g : Nat} {l : List UInt8} (h : Byt w a n l) (hg : w.grownBy w' (some g)) (hb : 0 < n → ∀ b o f, a = some ⟨b, o, f⟩ → b ≠ g) : Byt w' a n l := by
  rcases h.2 with h0 | ⟨b, off, rfl, _⟩
  · exact ⟨h.1, .inl h0⟩
  · by_cases h0 : n = 0
    · exact ⟨h.1, .inl h0⟩
    · exact h.but hg (hb (by omega) b off none rfl)
set_option maxHeartbeats 2000000 in
theorem refMixHash_any (g cb co cc hb ho hc kb ko kc : Nat) (chain hash key : List UInt8) (has : Bool) (n : Nat) (b : Option Addr) (lb capb : Nat) (bl : List UInt8) (w : World)
    (hM : RM w g cb co cc hb ho hc kb ko kc chain hash key has n) (x9 : Nat) (hx9 : x9 < w.heap.size) (hx93 : cb ≠ x9 ∧ hb ≠ x9 ∧ kb ≠ x9) (hB : Byt w b lb bl) (hBn : b = none → capb = 0) (hlb : lb ≤ 2000) :
    Calls Tryz.prog 10 #[.pointer (some ⟨g, 0, none⟩), .slice b lb capb] w fun e w' => (∃ v, e = .returned v) ∧ w.grownBy w' (some g) ∧ RMx w' g x9 chain (mixH hash bl) key has n := by
  have hbl := hB.1
  have hgl := hM.lt
  have HM := ci_hid hM
  have HB := ci_hid hB
  have hal : Below w.heap.size w (w.alloc (.cells #[] 5)) := (Below.refl _ _).alloc (Nat.le_refl _) _
  obtain ⟨v1, w1, hap1, own1, hg1⟩ := append_own_any (w.alloc (.cells #[] 5)) w.heap.size (.slice (some ⟨w.heap.size, 0, none⟩) 0 0) 0 [] (World.ownsRow_made w #[] 0 (Nat.le_refl _) (Nat.zero_le _) rfl) (some ⟨hb, ho, none⟩) 32 hc hash (hM.hB.later hal) (fun e => by cases e) (by simp) (by omega)
  have hW1 : Below w.heap.size w w1 := hal.grown hg1 (by simp) (fun k hk => by simp [Value.ownBlock] at hk; omega)
  rw [Nat.zero_add, List.nil_append] at own1
  obtain ⟨v2, w2, hap2, own2, hg2⟩ := append_own_any w1 w.heap.size v1 32 hash own1 b lb capb bl (hB.later hW1) hBn hW1.size (by omega)
  have hW2 : Below w.heap.size w w2 := hW1.grown hg2 hW1.size (fun k hk => (own1.lt k hk).1)
  obtain ⟨a2, c2, rfl, hB2, hc2, _, hn2⟩ := own_parts own2
  have HAP1 : Hid _ := hap1
  have HAP2 : Hid _ := hap2
  have HB2 := ci_hid hB2
  have HW2 := ci_hid hW2
  have hMa := hM.later hal
  obtain ⟨q1, q2, q3, q4, q5, q6⟩ := hMa.cells
  clear hM hB hap1 hap2 own1 own2 hg1 hg2 hW1 hW2 hB2 hMa hal
  go_enter Tryz.func10, Tryz.ntmps10
  go_wp2_with (at_builtin; first | refine wpList_append_run rfl (.tmp 5) (.tmp 9) 28 rfl _ _ _ _ rfl rfl HAP1.out ?_ | refine wpList_append_run rfl (.tmp 10) (.tmp 11) 28 rfl _ _ _ _ rfl rfl HAP2.out ?_)
  clear q1 q2 q3 q4 q5 q6 HAP1 HAP2
  refine (refSumB_any a2 (32 + lb) c2 (hash ++ bl) w2 HB2.out hn2 (by omega) hc2).mono ?_
  rintro e w3 ⟨a3, c3, rfl, hb3, hs3, hk3⟩
  have hM3 := HM.out.later (HW2.out.trans (hb3.mono HW2.out.size))
  have HG3 := ci_hid (HW2.out.trans (hb3.mono HW2.out.size))
  have hB3 := Byt.ofSeg hs3
  obtain ⟨g3, o3, rfl, _⟩ := hB3.at_ 0 (by omega)
  have hg3 : g3 ≠ g := by have := hk3 g3 rfl; have := HW2.out.size; omega
  have hg9 : g3 ≠ x9 := by have := hk3 g3 rfl; have := HW2.out.size; omega
  have hc3 := hs3.cap_le
  have hM4 := hM3.setHash g3 o3 c3 (mixH hash bl) hc3 hB3 hg3
  have HM4 := ci_hid hM4
  have HG4 : Hid (w.grownBy (w3.setCell ⟨g, 1, none⟩ (.slice (some ⟨g3, o3, none⟩) 32 c3)) (some g)) := World.grownBy.trans (But.below g HG3.out) (But.setCell w3 g _ _)
  obtain ⟨q1, q2, q3, q4, q5, q6⟩ := hM3.cells
  clear hb3 hs3 hk3 hB3 hM3 hM4
  go_wp2
  refine bodyPost_end (results_none rfl _ _ _) rfl ?_
  exact ⟨⟨_, rfl⟩, HG4.out, _, _, _, _, _, _, _, _, _, HM4.out, hx93.1, hg9, hx93.2.2⟩

set_option maxHeartbeats 4000000 in
theorem refMSeal_any (g cb co cc hb ho hc kb ko kc : Nat) (chain hash key : List UInt8) (has : Bool) (n : Nat) (b : Option Addr) (lb capb : Nat) (bl : List UInt8) (w : World)
    (hM : RM w g cb co cc hb ho hc kb ko kc chain hash key has n) (x9 : Nat) (hx9 : x9 < w.heap.size) (hx93 : cb ≠ x9 ∧ hb ≠ x9 ∧ kb ≠ x9) (hn : n ≤ 18446744073709551615) (hB : Byt w b lb bl) (hBn : b = none → capb = 0) (hlb : lb ≤ 900) (hbc : lb ≤ capb) (hbm : capb ≤ maxLen) (hbg : 0 < lb → ∀ x o f, b = some ⟨x, o, f⟩ → x ≠ g) :
    Calls Tryz.prog 12 #[.pointer (some ⟨g, 0, none⟩), .slice b lb capb] w fun e w' => ∃ v, e = .returned (.tuple #[v, .int .i64 ((sErr has n : Nat) : Int)]) ∧ w.grownBy w' (some g) ∧ RMx w' g x9 chain (sHash hash key has n bl) key has (sNum has n) ∧ ∃ m, w'.ownsRow w.heap.size 5 1 v m ((sOut key has n hash bl).map bv) := by
  have hgl := hM.lt
  have HM := ci_hid hM
  have HB := ci_hid hB
  obtain ⟨X, hX⟩ : ∃ X, sOut key has n hash bl = X := ⟨_, rfl⟩
  obtain ⟨ev, hev⟩ : ∃ ev, sErr has n = ev := ⟨_, rfl⟩
  obtain ⟨nv, hnv⟩ : ∃ nv, sNum has n = nv := ⟨_, rfl⟩
  have hHs : sHash hash key has n bl = if ev = 0 then mixH hash X else hash := by rw [sHash, hev, hX]
  have hXl : X.length ≤ lb + 16 := by
    rw [← hX]
    have := sOut_le key has n hash bl
    have := hB.1
    omega
  obtain ⟨HH, hHH⟩ : ∃ HH, sHash hash key has n bl = HH := ⟨_, rfl⟩
  have Hyes : Hid (ev = 0 → mixH hash X = HH) := fun e => by rw [← hHH, hHs, if_pos e]
  have Hno : Hid (¬ ev = 0 → hash = HH) := fun e => by rw [← hHH, hHs, if_neg e]
  rw [hX, hev, hHH, hnv]
  have HXe := ci_hid hX
  have Hev := ci_hid hev
  have Hnv := ci_hid hnv
  clear hM hB hX hev hnv hHs hHH
  go_enter Tryz.func12, Tryz.ntmps12
  go_wp2
  obtain ⟨W, hW⟩ : ∃ W, w.drew = W := ⟨_, rfl⟩
  have hbW : Below w.heap.size w W := by rw [← hW]; exact (Below.refl _ _).drew
  have HMW := ci_hid (HM.out.later hbW)
  have HBW := ci_hid (HB.out.later hbW)
  have HWW := ci_hid hbW
  have hq1 := HMW.out.cells.2.1
  have HWe : Hid (w.drew = W) := hW
  clear hW hbW
  refine wp_region_sched' (G := fun X Y => X.grownBy Y (some g) ∧ Y.cell? ⟨g, 1, none⟩ = X.cell? ⟨g, 1, none⟩) (by kernel_rfl) (fun X => ⟨grownBy_refl X _, rfl⟩) (fun _ _ _ h k => ⟨World.grownBy.trans h.1 k.1, k.2.trans h.2⟩) (by kernel_rfl) [(0, true), (1, true), (2, true), (3, true), (4, true), (5, true), (6, true), (7, true), (8, false), (9, true), (10, true), (11, true), (12, true), (13, true)] rfl (by kernel_rfl) ?_
  intro KK hKK
  rw [HWe.out]
  iterate 8 (refine sched_take rfl (by rfl) (v := ?_) ?_ ?_; rotate_left; (intro w' hw'; have q1 := hw'.2.trans hq1; clear hw'; go_simp; with_reducible rfl); go_simp)
  · refine sched_call (f := 27) (args := #[.pointer (some ⟨g, 2, none⟩), .slice (some ⟨hb, ho, none⟩) 32 hc, .slice b lb capb]) rfl (by rfl) (by go_simp) ?_
    refine (refCSeal_any g 2 _ _ kb ko kc key has n (some ⟨hb, ho, none⟩) 32 hc hash b lb capb bl W HMW.out.rc hn HMW.out.hB (fun e => by cases e) HBW.out hBn (by omega) (by omega) hbc hbm).mono ?_
    rintro e w3 ⟨v3, rfl, hG3, hR3, m3, own3⟩
    refine ⟨_, rfl, ⟨hG3, (row_cell hR3.row (i := 1) (v := .slice (some ⟨hb, ho, none⟩) 32 hc) rfl).trans hq1.symm⟩, ?_⟩
    have hM3 := HMW.out.turned hG3 hR3
    rw [HXe.out] at own3
    rw [Hev.out]
    rw [Hnv.out] at hM3
    have hml : X.length = m3 := by have := own3.1; simpa using this
    obtain ⟨a3, c3, rfl, hB3, hc3, hm3, hn3⟩ := own_parts own3
    have hW3g := World.grownBy.trans (But.below g HWW.out) hG3
    have hk3 : ∀ x o f, a3 = some ⟨x, o, f⟩ → x ≠ g := fun x o f e => by
      subst e
      have h1 := (own_base own3 x rfl).1
      have h2 := HMW.out.lt
      omega
    have HM3 := ci_hid hM3
    have HB3 := ci_hid hB3
    have HO3 := ci_hid (own_lower own3 HWW.out.size)
    have HG3 := ci_hid hW3g
    have HB3b := ci_hid (byt_any9 HBW.out hG3 hbg)
    clear hM3 hB3 own3 hW3g hG3 hR3 HMW HBW HWW hq1
    go_simp
    iterate 5 (refine sched_take rfl (by rfl) (v := ?_) ?_ ?_; rotate_left; (intro w' hw'; clear hw'; go_simp; with_reducible rfl); go_simp)
    refine sched_done hKK ?_
    clear hKK
    by_cases he : ev = 0
    · have HyesE := Hyes.out he
      subst he
      clear Hyes Hno
      go_wp2_with fail
      refine (refMixHash_any g cb co cc hb ho hc kb ko kc chain hash key has nv a3 m3 c3 X w3 HM3.out x9 (by have := HG3.out.size; omega) hx93 HB3.out hn3 (by omega)).mono ?_
      rintro e w4 ⟨⟨v4, rfl⟩, hG4, hM4⟩
      rw [HyesE] at hM4
      have HO4 := ci_hid (own_but HO3.out hG4 (fun x hx e => by
        cases e
        cases a3 with
        | none => cases hx
        | some y =>
          obtain ⟨yb, yo, yf⟩ := y
          have := hk3 yb yo yf rfl
          simp [Value.ownBlock] at hx
          omega))
      have HG4 := ci_hid (World.grownBy.trans HG3.out hG4)
      have HM4 := ci_hid hM4
      clear hG4 hM4 HO3 HG3 HM3 HB3 HB3b
      go_wp2
      go_ret2
      exact ⟨_, rfl, HG4.out, HM4.out, m3, HO4.out⟩
    · have he' : ¬ ((ev : Nat) : Int) = 0 := by omega
      have hM9 := HM3.out
      rw [Hno.out he] at hM9
      have HM9 := ci_hid hM9
      clear hM9
      go_wp2
      go_ret2
      exact ⟨_, rfl, HG3.out, ⟨_, _, _, _, _, _, _, _, _, HM9.out, hx93⟩, m3, HO3.out⟩

set_option maxHeartbeats 4000000 in
theorem refMOpen_any (g cb co cc hb ho hc kb ko kc : Nat) (chain hash key : List UInt8) (has : Bool) (n : Nat) (b : Option Addr) (lb capb : Nat) (bl : List UInt8) (w : World)
    (hM : RM w g cb co cc hb ho hc kb ko kc chain hash key has n) (x9 : Nat) (hx9 : x9 < w.heap.size) (hx93 : cb ≠ x9 ∧ hb ≠ x9 ∧ kb ≠ x9) (hn : n ≤ 18446744073709551615) (hB : Byt w b lb bl) (hBn : b = none → capb = 0) (hlb : lb ≤ 900) (hbc : lb ≤ capb) (hbm : capb ≤ maxLen) (hbg : 0 < lb → ∀ x o f, b = some ⟨x, o, f⟩ → x ≠ g) :
    Calls Tryz.prog 14 #[.pointer (some ⟨g, 0, none⟩), .slice b lb capb] w fun e w' => ∃ v, e = .returned (.tuple #[v, .int .i64 ((oErr key has n hash bl : Nat) : Int)]) ∧ w.grownBy w' (some g) ∧ RMx w' g x9 chain (oHash hash key has n bl) key has (oNum key has n hash bl) ∧ ∃ m, w'.ownsRow w.heap.size 5 1 v m ((oOut key has n hash bl).map bv) := by
  have hgl := hM.lt
  have HM := ci_hid hM
  have HB := ci_hid hB
  obtain ⟨X, hX⟩ : ∃ X, oOut key has n hash bl = X := ⟨_, rfl⟩
  obtain ⟨ev, hev⟩ : ∃ ev, oErr key has n hash bl = ev := ⟨_, rfl⟩
  obtain ⟨nv, hnv⟩ : ∃ nv, oNum key has n hash bl = nv := ⟨_, rfl⟩
  have hHs : oHash hash key has n bl = if ev = 0 then mixH hash bl else hash := by rw [oHash, hev]
  have hXl : X.length ≤ lb + 16 := by
    rw [← hX]
    have := oOut_le key has n hash bl
    have := hB.1
    omega
  obtain ⟨HH, hHH⟩ : ∃ HH, oHash hash key has n bl = HH := ⟨_, rfl⟩
  have Hyes : Hid (ev = 0 → mixH hash bl = HH) := fun e => by rw [← hHH, hHs, if_pos e]
  have Hno : Hid (¬ ev = 0 → hash = HH) := fun e => by rw [← hHH, hHs, if_neg e]
  rw [hX, hev, hHH, hnv]
  have HXe := ci_hid hX
  have Hev := ci_hid hev
  have Hnv := ci_hid hnv
  clear hM hB hX hev hnv hHs hHH
  go_enter Tryz.func14, Tryz.ntmps14
  go_wp2
  obtain ⟨W, hW⟩ : ∃ W, w.drew = W := ⟨_, rfl⟩
  have hbW : Below w.heap.size w W := by rw [← hW]; exact (Below.refl _ _).drew
  have HMW := ci_hid (HM.out.later hbW)
  have HBW := ci_hid (HB.out.later hbW)
  have HWW := ci_hid hbW
  have hq1 := HMW.out.cells.2.1
  have HWe : Hid (w.drew = W) := hW
  clear hW hbW
  refine wp_region_sched' (G := fun X Y => X.grownBy Y (some g) ∧ Y.cell? ⟨g, 1, none⟩ = X.cell? ⟨g, 1, none⟩) (by kernel_rfl) (fun X => ⟨grownBy_refl X _, rfl⟩) (fun _ _ _ h k => ⟨World.grownBy.trans h.1 k.1, k.2.trans h.2⟩) (by kernel_rfl) [(0, true), (1, true), (2, true), (3, true), (4, true), (5, true), (6, true), (7, true), (8, false), (9, true), (10, true), (11, true), (12, true), (13, true)] rfl (by kernel_rfl) ?_
  intro KK hKK
  rw [HWe.out]
  iterate 8 (refine sched_take rfl (by rfl) (v := ?_) ?_ ?_; rotate_left; (intro w' hw'; have q1 := hw'.2.trans hq1; clear hw'; go_simp; with_reducible rfl); go_simp)
  · refine sched_call (f := 28) (args := #[.pointer (some ⟨g, 2, none⟩), .slice (some ⟨hb, ho, none⟩) 32 hc, .slice b lb capb]) rfl (by rfl) (by go_simp) ?_
    refine (refCOpen_any g 2 _ _ kb ko kc key has n (some ⟨hb, ho, none⟩) 32 hc hash b lb capb bl W HMW.out.rc hn HMW.out.hB (fun e => by cases e) HBW.out hBn (by omega) (by omega) hbc hbm).mono ?_
    rintro e w3 ⟨v3, rfl, hG3, hR3, m3, own3⟩
    refine ⟨_, rfl, ⟨hG3, (row_cell hR3.row (i := 1) (v := .slice (some ⟨hb, ho, none⟩) 32 hc) rfl).trans hq1.symm⟩, ?_⟩
    have hM3 := HMW.out.turned hG3 hR3
    rw [HXe.out] at own3
    rw [Hev.out]
    rw [Hnv.out] at hM3
    have hml : X.length = m3 := by have := own3.1; simpa using this
    obtain ⟨a3, c3, rfl, hB3, hc3, hm3, hn3⟩ := own_parts own3
    have hW3g := World.grownBy.trans (But.below g HWW.out) hG3
    have hk3 : ∀ x o f, a3 = some ⟨x, o, f⟩ → x ≠ g := fun x o f e => by
      subst e
      have h1 := (own_base own3 x rfl).1
      have h2 := HMW.out.lt
      omega
    have HM3 := ci_hid hM3
    have HB3 := ci_hid hB3
    have HO3 := ci_hid (own_lower own3 HWW.out.size)
    have HG3 := ci_hid hW3g
    have HB3b := ci_hid (byt_any9 HBW.out hG3 hbg)
    clear hM3 hB3 own3 hW3g hG3 hR3 HMW HBW HWW hq1
    go_simp
    iterate 5 (refine sched_take rfl (by rfl) (v := ?_) ?_ ?_; rotate_left; (intro w' hw'; clear hw'; go_simp; with_reducible rfl); go_simp)
    refine sched_done hKK ?_
    clear hKK
    by_cases he : ev = 0
    · have HyesE := Hyes.out he
      subst he
      clear Hyes Hno
      go_wp2_with fail
      refine (refMixHash_any g cb co cc hb ho hc kb ko kc chain hash key has nv b lb capb bl w3 HM3.out x9 (by have := HG3.out.size; omega) hx93 HB3b.out hBn (by omega)).mono ?_
      rintro e w4 ⟨⟨v4, rfl⟩, hG4, hM4⟩
      rw [HyesE] at hM4
      have HO4 := ci_hid (own_but HO3.out hG4 (fun x hx e => by
        cases e
        cases a3 with
        | none => cases hx
        | some y =>
          obtain ⟨yb, yo, yf⟩ := y
          have := hk3 yb yo yf rfl
          simp [Value.ownBlock] at hx
          omega))
      have HG4 := ci_hid (World.grownBy.trans HG3.out hG4)
      have HM4 := ci_hid hM4
      clear hG4 hM4 HO3 HG3 HM3 HB3 HB3b
      go_wp2
      go_ret2
      exact ⟨_, rfl, HG4.out, HM4.out, m3, HO4.out⟩
    · have he' : ¬ ((ev : Nat) : Int) = 0 := by omega
      have hM9 := HM3.out
      rw [Hno.out he] at hM9
      have HM9 := ci_hid hM9
      clear hM9
      go_wp2
      go_ret2
      exact ⟨_, rfl, HG3.out, ⟨_, _, _, _, _, _, _, _, _, HM9.out, hx93⟩, m3, HO3.out⟩

set_option maxHeartbeats 4000000 in
theorem refMixKey_any (g cb co cc hb ho hc kb ko kc : Nat) (chain hash key : List UInt8) (has : Bool) (n : Nat) (b : Option Addr) (lb capb : Nat) (bl : List UInt8) (w : World)
    (hM : RM w g cb co cc hb ho hc kb ko kc chain hash key has n) (x9 : Nat) (hx9 : x9 < w.heap.size) (hx93 : cb ≠ x9 ∧ hb ≠ x9 ∧ kb ≠ x9) (hB : Byt w b lb bl) (hBn : b = none → capb = 0) (hlb : lb ≤ 2000) (hbc : lb ≤ capb) :
    Calls Tryz.prog 8 #[.pointer (some ⟨g, 0, none⟩), .slice b lb capb] w fun e w' => (∃ v, e = .returned v) ∧ w.grownBy w' (some g) ∧ RMx w' g x9 (der1 chain bl) hash (der2 chain bl) true 0 := by
  have hgl := hM.lt
  have HM := ci_hid hM
  have HB := ci_hid hB
  obtain ⟨q1, q2, q3, q4, q5, q6⟩ := hM.cells
  clear hM hB
  go_enter Tryz.func8, Tryz.ntmps8
  go_wp2_with fail
  refine (refDerive_any (some ⟨cb, co, none⟩) 32 cc chain b lb capb bl w HM.out.cB (fun e => by cases e) (by omega) HM.out.cl HB.out hBn (by omega) hbc).mono ?_
  rintro e w1 ⟨v1, rfl, hb1, own1⟩
  obtain ⟨vb, vc, rfl, hvb, _⟩ := own_slice own1 (by omega)
  obtain ⟨_, _, e1, hB1, hc1, hm1, _⟩ := own_parts own1
  cases e1
  obtain ⟨d1, hd1⟩ : ∃ d, der1 chain bl = d := ⟨_, rfl⟩
  obtain ⟨d2, hd2⟩ : ∃ d, der2 chain bl = d := ⟨_, rfl⟩
  obtain ⟨d3, hd3⟩ : ∃ d, der3 chain bl = d := ⟨_, rfl⟩
  have l1 : d1.length = 32 := by rw [← hd1]; exact der1_length _ _
  have l2 : d2.length = 32 := by rw [← hd2]; exact der2_length _ _
  rw [hd1, hd2, hd3] at hB1
  have HD1 := ci_hid hd1
  have HD2 := ci_hid hd2
  have hA := hB1.cut (q := 32) (by omega)
  rw [List.append_assoc, List.take_left' l1] at hA
  have hK := hB1.sub (n := 32) (q := 64) (by omega) (by omega)
  rw [List.append_assoc, List.drop_left' l1, List.take_left' l2] at hK
  have hK' : Byt w1 (some ⟨vb, 32, none⟩) 32 d2 := by simpa using hK
  have hvg : vb ≠ g := by omega
  have hv9 : vb ≠ x9 := by omega
  have hvcm : vc ≤ 9223372036854775807 := by unfold maxLen at hm1; omega
  have hM1 := HM.out.later hb1
  have HW1 := ci_hid hb1
  obtain ⟨p1, p2, p3, p4, p5, p6⟩ := hM1.cells
  have hi1 : (32 : Int) ≤ (vc : Int) := by omega
  have hi2 : (64 : Int) ≤ (vc : Int) := by omega
  -- both stores
  have r1 := row_set hM1.row 0 (.slice (some ⟨vb, 0, none⟩) 32 vc)
  have hA2 := hA.but (But.setCell w1 g 0 (.slice (some ⟨vb, 0, none⟩) 32 vc)) hvg
  have hK2 := hK'.but (But.setCell w1 g 0 (.slice (some ⟨vb, 0, none⟩) 32 vc)) hvg
  have hH2 := hM1.hB.but (But.setCell w1 g 0 (.slice (some ⟨vb, 0, none⟩) 32 vc)) hM1.hg
  have hG2 := World.grownBy.trans (But.below g hb1) (But.setCell w1 g 0 (.slice (some ⟨vb, 0, none⟩) 32 vc))
  obtain ⟨w2, hw2⟩ : ∃ W, w1.setCell ⟨g, 0, none⟩ (.slice (some ⟨vb, 0, none⟩) 32 vc) = W := ⟨_, rfl⟩
  rw [hw2] at r1 hA2 hK2 hH2 hG2
  have c2 : w2.cell? ⟨g, 2, none⟩ = some (.slice (some ⟨kb, ko, none⟩) 32 kc) := row_cell r1 rfl
  have c3 : w2.cell? ⟨g, 3, none⟩ = some (.bool has) := row_cell r1 rfl
  have c4 : w2.cell? ⟨g, 4, none⟩ = some (.int .u64 (n : Int)) := row_cell r1 rfl
  have f2 : w2.frozen? ⟨g, 2, none⟩ = false := frozen_of_row w2 g _ _ _ r1
  have f3 : w2.frozen? ⟨g, 3, none⟩ = false := frozen_of_row w2 g _ _ _ r1
  have f4 : w2.frozen? ⟨g, 4, none⟩ = false := frozen_of_row w2 g _ _ _ r1
  have r2 := row_set r1 2 (.slice (some ⟨vb, 32, none⟩) 32 (vc - 32))
  have r3 := row_set r2 3 (.bool true)
  have r4 := row_set r3 4 (.int .u64 0)
  have hG3 := ((World.grownBy.trans hG2 (But.setCell w2 g 2 (.slice (some ⟨vb, 32, none⟩) 32 (vc - 32)))).trans (But.setCell _ g 3 (.bool true))).trans (But.setCell _ g 4 (.int .u64 0))
  have hT : w2.grownBy (((w2.setCell ⟨g, 2, none⟩ (.slice (some ⟨vb, 32, none⟩) 32 (vc - 32))).setCell ⟨g, 3, none⟩ (.bool true)).setCell ⟨g, 4, none⟩ (.int .u64 0)) (some g) := World.grownBy.trans (World.grownBy.trans (But.setCell w2 g 2 _) (But.setCell _ g 3 _)) (But.setCell _ g 4 _)
  have HM3 : Hid (RM (((w2.setCell ⟨g, 2, none⟩ (.slice (some ⟨vb, 32, none⟩) 32 (vc - 32))).setCell ⟨g, 3, none⟩ (.bool true)).setCell ⟨g, 4, none⟩ (.int .u64 0)) g vb 0 vc hb ho hc vb 32 (vc - 32) d1 hash d2 true 0) :=
    ⟨r4, by omega, hM1.hl, by omega, by omega, hA2.but hT hvg, hH2.but hT hM1.hg, hK2.but hT hvg, hvg, hM1.hg, hvg⟩
  have HG3 := ci_hid hG3
  clear hb1 own1 hB1 hd1 hd2 hd3 hA hK hK' hM1 r1 r2 r3 r4 hA2 hK2 hH2 hG2 hG3 hT q1 q2 q3 q4 q5 q6
  go_wp2
  refine bodyPost_end (results_none rfl _ _ _) rfl ?_
  rw [HD1.out, HD2.out]
  exact ⟨⟨_, rfl⟩, HG3.out, _, _, _, _, _, _, _, _, _, HM3.out, hv9, hx93.2.1, hv9⟩
end Go.Proofs.YtdancpcnjklifaaGreatDoor
