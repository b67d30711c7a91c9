/- The walks over the document's Cipher (stage 9): Seal, Open, Rekey. -/
import Derived.Test.YtdancpcnjklifaaDoorRefCi
import Derived.Test.YtdancpcnjklifaaDoorAppW
import Derived.Test.YtdancpcnjklifaaDoorPartW
import Derived.Test.YtdancpcnjklifaaDoorSchedE
namespace Go.Proofs.YtdancpcnjklifaaDoor
set_option linter.unusedVariables false
set_option maxRecDepth 100000
open Go.RowKit

theorem set_same {α : Type} (L : List α) (i : Nat) (v : α) (h : L[i]? = some v) : L.set i v = L := by
  apply List.ext_getElem?
  intro j
  rw [List.getElem?_set]
  by_cases e : i = j
  · subst e
    rw [if_pos rfl, h]
    have : i < L.length := (List.getElem?_eq_some_iff.1 h).1
    simp [this]
  · rw [if_neg e]
/-- One cell of a row is written anew. -/
theorem row_set {w : World} {g : Nat} {L : List Value} {t : TypeId} (h : w.heap[g]? = some (.cells L.toArray t (0, 0))) (i : Nat) (v : Value) : (w.setCell ⟨g, i, none⟩ v).heap[g]? = some (.cells (L.set i v).toArray t (0, 0)) := by
  rw [heap_setCell_same w g i _ _ _ h]
  simp
theorem row_cell {w : World} {g : Nat} {L : List Value} {t : TypeId} (h : w.heap[g]? = some (.cells L.toArray t (0, 0))) {i : Nat} {v : Value} (hi : L[i]? = some v) : w.cell? ⟨g, i, none⟩ = some v := by
  rw [cell_of_row w g i _ _ (0, 0) h]
  simpa using hi
theorem row_later {w w' : World} {g : Nat} {o : Obj} (h : w.heap[g]? = some o) (hb : Below w.heap.size w w') : w'.heap[g]? = some o := by
  rw [hb.block g (Array.getElem?_eq_some_iff.1 h).1]
  exact h
/-- A document's cipher in a row, from the cell off on. -/
structure RC (w : World) (g off t : Nat) (L : List Value) (kb koff kc : Nat) (key : List UInt8) (has : Bool) (n : Nat) : Prop where
  row : w.heap[g]? = some (.cells L.toArray t (0, 0))
  k : L[off]? = some (.slice (some ⟨kb, koff, none⟩) 32 kc)
  h : L[off + 1]? = some (.bool has)
  n : L[off + 2]? = some (.int .u64 (n : Int))
  lo : 32 ≤ kc
  hi : kc ≤ 9223372036854775807
  key : Byt w (some ⟨kb, koff, none⟩) 32 key
  ne : kb ≠ g
theorem RC.lt {w : World} {g off t : Nat} {L : List Value} {kb koff kc : Nat} {key : List UInt8} {has : Bool} {n : Nat} (x : RC w g off t L kb koff kc key has n) : g < w.heap.size := (Array.getElem?_eq_some_iff.1 x.row).1
theorem RC.later {w w' : World} {g off t : Nat} {L : List Value} {kb koff kc : Nat} {key : List UInt8} {has : Bool} {n : Nat} (x : RC w g off t L kb koff kc key has n) (hb : Below w.heap.size w w') : RC w' g off t L kb koff kc key has n :=
  ⟨row_later x.row hb, x.k, x.h, x.n, x.lo, x.hi, x.key.later hb, x.ne⟩
theorem RC.cells {w : World} {g off t : Nat} {L : List Value} {kb koff kc : Nat} {key : List UInt8} {has : Bool} {n : Nat} (x : RC w g off t L kb koff kc key has n) :
    w.cell? ⟨g, off, none⟩ = some (.slice (some ⟨kb, koff, none⟩) 32 kc) ∧ w.cell? ⟨g, off + 1, none⟩ = some (.bool has) ∧ w.cell? ⟨g, off + 2, none⟩ = some (.int .u64 (n : Int)) ∧ w.frozen? ⟨g, off + 2, none⟩ = false ∧ w.frozen? ⟨g, off, none⟩ = false :=
  ⟨row_cell x.row x.k, row_cell x.row x.h, row_cell x.row x.n, frozen_of_row w g _ _ _ x.row, frozen_of_row w g _ _ _ x.row⟩
theorem RC.setN {w : World} {g off t : Nat} {L : List Value} {kb koff kc : Nat} {key : List UInt8} {has : Bool} {n : Nat} (x : RC w g off t L kb koff kc key has n) (m : Nat) :
    RC (w.setCell ⟨g, off + 2, none⟩ (.int .u64 (m : Int))) g off t (L.set (off + 2) (.int .u64 (m : Int))) kb koff kc key has m := by
  have hl : off + 2 < L.length := (List.getElem?_eq_some_iff.1 x.n).1
  refine ⟨row_set x.row _ _, ?_, ?_, ?_, x.lo, x.hi, x.key.but (But.setCell w g _ _) x.ne, x.ne⟩
  · rw [List.getElem?_set_ne (by omega)]; exact x.k
  · rw [List.getElem?_set_ne (by omega)]; exact x.h
  · rw [List.getElem?_set_self (by omega)]
theorem RC.same {w : World} {g off t : Nat} {L : List Value} {kb koff kc : Nat} {key : List UInt8} {has : Bool} {n : Nat} (x : RC w g off t L kb koff kc key has n) : RC w g off t (L.set (off + 2) (.int .u64 (n : Int))) kb koff kc key has n := by
  rw [set_same _ _ _ x.n]
  exact x

set_option maxHeartbeats 4000000 in
theorem refCSeal_any (g off t : Nat) (L : List Value) (kb koff kc : Nat) (key : List UInt8) (has : Bool) (n : Nat) (a : Option Addr) (la ca : Nat) (ad : List UInt8) (c : Option Addr) (lc cc : Nat) (b : List UInt8) (w : World)
    (hR : RC w g off t L kb koff kc key has n) (hn : n ≤ 18446744073709551615) (hA : Byt w a la ad) (hAn : a = none → ca = 0) (hC : Byt w c lc b) (hCn : c = none → cc = 0) (hla : la ≤ 1000) (hlc : lc ≤ 1000) (hcc : lc ≤ cc) (hcm : cc ≤ maxLen) :
    Calls Tryd.prog 11 #[.pointer (some ⟨g, off, none⟩), .slice a la ca, .slice c lc cc] w fun e w' => ∃ v, e = .returned (.tuple #[v, .int .i64 ((sErr has n : Nat) : Int)]) ∧ w.grownBy w' (some g) ∧ RC w' g off t (L.set (off + 2) (.int .u64 ((sNum has n : Nat) : Int))) kb koff kc key has (sNum has n) ∧ ∃ m, w'.ownsRow w.heap.size 5 1 v m ((sOut key has n ad b).map bv) := by
  have hbl := hC.1
  have hgl := hR.lt
  have HR : Hid (RC w g off t L kb koff kc key has n) := hR
  have HA : Hid (Byt w a la ad) := hA
  have HC : Hid (Byt w c lc b) := hC
  obtain ⟨q1, q2, q3, _, _⟩ := hR.cells
  clear hR hA hC
  cases has with
  | false =>
    have hal : Below w.heap.size w (w.alloc (.cells #[] 5)) := (Below.refl _ _).alloc (Nat.le_refl _) _
    obtain ⟨v1, w1, hap1, own1, hg1⟩ := append_own_any (w.alloc (.cells #[] 5)) w.heap.size (.slice (some ⟨w.heap.size, 0, none⟩) 0 0) 0 [] (World.ownsRow_made w #[] 0 (Nat.le_refl _) (Nat.zero_le _) rfl) c lc cc b (HC.out.later hal) hCn (by simp) (by omega)
    have HW1 : Hid (Below w.heap.size w w1) := hal.grown hg1 (by simp) (fun k hk => by simp [Value.ownBlock] at hk; omega)
    rw [Nat.zero_add, List.nil_append] at own1
    have HO1 := ci_hid own1
    have HAP : Hid _ := hap1
    clear hap1 own1 hg1 hal
    go_enter Tryd.func11, Tryd.ntmps11
    go_wp2_with (at_builtin; refine wpList_append_run rfl (.tmp 14) (.tmp 15) 29 rfl _ _ _ _ rfl rfl HAP.out ?_)
    go_ret2
    exact ⟨_, rfl, But.below g HW1.out, (HR.out.later HW1.out).same, _, HO1.out⟩
  | true =>
    by_cases hne : n = 18446744073709551615
    · subst hne
      go_enter Tryd.func11, Tryd.ntmps11
      go_wp2
      go_ret2
      exact ⟨_, rfl, grownBy_refl _ _, HR.out.same, 0, ⟨rfl, .inl ⟨rfl, rfl⟩⟩⟩
    · have hne' : ¬ (n : Int) = 18446744073709551615 := by omega
      have e1 : sErr true n = 0 := by simp [sErr, lastN, hne]
      have e2 : sNum true n = n + 1 := by simp [sNum, lastN, hne]
      have e3 : sOut key true n ad b = sealB key (nonceB n) ad b := by simp [sOut, lastN, hne]
      rw [e1, e2, e3]
      clear e1 e2 e3
      go_enter Tryd.func11, Tryd.ntmps11
      go_wp2
      obtain ⟨W, hW⟩ : ∃ W, w.drew = W := ⟨_, rfl⟩
      have hgr : Below w.heap.size w W := by rw [← hW]; exact (Below.refl _ _).drew
      have HWW := ci_hid hgr
      have HRW := ci_hid (HR.out.later hgr)
      have HCe : Hid (∀ w', Grows W w' → w'.cell? ⟨g, off, none⟩ = some (.slice (some ⟨kb, koff, none⟩) 32 kc) ∧ w'.cell? ⟨g, off + 2, none⟩ = some (.int .u64 (n : Int))) := fun w' hw' => by
        obtain ⟨c1, _, c3, _⟩ := (HRW.out.later hw').cells
        exact ⟨c1, c3⟩
      have hWe : Hid (w.drew = W) := hW
      clear hW hgr q1 q2 q3
      refine wp_region_sched' (G := Grows) (by kernel_rfl) Grows.refl Grows.trans (by kernel_rfl) [(0, true), (1, true), (2, true), (3, true), (4, true), (5, true), (6, true), (7, true), (9, true), (10, true), (8, false), (11, false), (12, true)] rfl (by kernel_rfl) ?_
      intro KK hKK
      rw [hWe.out]
      iterate 10 (refine sched_take rfl (by rfl) (v := ?_) ?_ ?_; rotate_left; (intro w' hw'; obtain ⟨q1, q2⟩ := HCe.out w' hw'; clear hw'; go_simp; with_reducible rfl); go_simp)
      refine sched_call (f := 26) (args := #[.int .u64 (n : Int)]) rfl (by rfl) (by go_simp) ?_
      refine (refNonce_any n (by omega) W).mono ?_
      rintro e w2 ⟨nb, nc, rfl, hb2, hnc1, hnc2, hB2⟩
      refine ⟨_, rfl, hb2, ?_⟩
      have HN2 := ci_hid hB2
      have HW2 := ci_hid (HWW.out.trans (hb2.mono HWW.out.size))
      have HR2 := ci_hid (HRW.out.later hb2)
      clear hb2 hB2 HRW HWW HCe
      go_simp
      refine sched_call (f := 25) (args := #[.slice (some ⟨kb, koff, none⟩) 32 kc, .slice (some ⟨nb, 0, none⟩) 12 nc, .slice a la ca, .slice c lc cc]) rfl (by rfl) (by go_simp) ?_
      refine (refSeal_any kb koff nb 0 kc nc key (nonceB n) a la ca ad c lc cc b w2 HR2.out.lo hnc1 HR2.out.hi hnc2 HR2.out.key HN2.out (HA.out.later HW2.out) hAn (HC.out.later HW2.out) hla hlc hcc hcm).mono ?_
      rintro e w3 ⟨v3, rfl, hb3, own3⟩
      refine ⟨_, rfl, hb3, ?_⟩
      have HR3 := ci_hid (HR2.out.later hb3)
      have HW3 := ci_hid (HW2.out.trans (hb3.mono HW2.out.size))
      have HO3 := ci_hid (own_lower own3 HW2.out.size)
      obtain ⟨q1, q2, q3, q4, q5⟩ := HR3.out.cells
      clear own3 hb3 HN2 HR2 HW2
      go_simp
      iterate 1 (refine sched_take rfl (by rfl) (v := ?_) ?_ ?_; rotate_left; (intro w' hw'; clear hw'; go_simp; with_reducible rfl); go_simp)
      refine sched_done hKK ?_
      clear hKK
      have hw1 : IntKind.u64.wrap ((n : Int) + 1) = ((n + 1 : Nat) : Int) := by rw [IntKind.wrap_u64]; omega
      have HR4 := ci_hid (HR3.out.setN (n + 1))
      have HO4 : Hid ((w3.setCell ⟨g, off + 2, none⟩ (.int .u64 ((n + 1 : Nat) : Int))).ownsRow w.heap.size 5 1 v3 (lc + 16) ((sealB key (nonceB n) ad b).map bv)) := own_but HO3.out (But.setCell w3 g _ _) (fun b' hb' e => by
        have := (own_base HO3.out b' hb').1
        cases e
        omega)
      have HG4 : Hid (w.grownBy (w3.setCell ⟨g, off + 2, none⟩ (.int .u64 ((n + 1 : Nat) : Int))) (some g)) := World.grownBy.trans (But.below g HW3.out) (But.setCell w3 g _ _)
      go_wp2
      go_ret2
      exact ⟨_, rfl, HG4.out, HR4.out, _, HO4.out⟩
set_option maxHeartbeats 4000000 in
theorem refCOpen_any (g off t : Nat) (L : List Value) (kb koff kc : Nat) (key : List UInt8) (has : Bool) (n : Nat) (a : Option Addr) (la ca : Nat) (ad : List UInt8) (c : Option Addr) (lc cc : Nat) (b : List UInt8) (w : World)
    (hR : RC w g off t L kb koff kc key has n) (hn : n ≤ 18446744073709551615) (hA : Byt w a la ad) (hAn : a = none → ca = 0) (hC : Byt w c lc b) (hCn : c = none → cc = 0) (hla : la ≤ 1000) (hlc : lc ≤ 1000) (hcc : lc ≤ cc) (hcm : cc ≤ maxLen) :
    Calls Tryd.prog 13 #[.pointer (some ⟨g, off, none⟩), .slice a la ca, .slice c lc cc] w fun e w' => ∃ v, e = .returned (.tuple #[v, .int .i64 ((oErr key has n ad b : Nat) : Int)]) ∧ w.grownBy w' (some g) ∧ RC w' g off t (L.set (off + 2) (.int .u64 ((oNum key has n ad b : Nat) : Int))) kb koff kc key has (oNum key has n ad b) ∧ ∃ m, w'.ownsRow w.heap.size 5 1 v m ((oOut key has n ad b).map bv) := by
  have hbl := hC.1
  have hgl := hR.lt
  have HR : Hid (RC w g off t L kb koff kc key has n) := hR
  have HA : Hid (Byt w a la ad) := hA
  have HC : Hid (Byt w c lc b) := hC
  obtain ⟨q1, q2, q3, _, _⟩ := hR.cells
  clear hR hA hC
  cases has with
  | false =>
    have hal : Below w.heap.size w (w.alloc (.cells #[] 5)) := (Below.refl _ _).alloc (Nat.le_refl _) _
    obtain ⟨v1, w1, hap1, own1, hg1⟩ := append_own_any (w.alloc (.cells #[] 5)) w.heap.size (.slice (some ⟨w.heap.size, 0, none⟩) 0 0) 0 [] (World.ownsRow_made w #[] 0 (Nat.le_refl _) (Nat.zero_le _) rfl) c lc cc b (HC.out.later hal) hCn (by simp) (by omega)
    have HW1 : Hid (Below w.heap.size w w1) := hal.grown hg1 (by simp) (fun k hk => by simp [Value.ownBlock] at hk; omega)
    rw [Nat.zero_add, List.nil_append] at own1
    have HO1 := ci_hid own1
    have HAP : Hid _ := hap1
    clear hap1 own1 hg1 hal
    go_enter Tryd.func13, Tryd.ntmps13
    go_wp2_with (at_builtin; refine wpList_append_run rfl (.tmp 15) (.tmp 16) 29 rfl _ _ _ _ rfl rfl HAP.out ?_)
    go_ret2
    exact ⟨_, rfl, But.below g HW1.out, (HR.out.later HW1.out).same, _, HO1.out⟩
  | true =>
    by_cases hne : n = 18446744073709551615
    · subst hne
      go_enter Tryd.func13, Tryd.ntmps13
      go_wp2
      go_ret2
      exact ⟨_, rfl, grownBy_refl _ _, HR.out.same, 0, ⟨rfl, .inl ⟨rfl, rfl⟩⟩⟩
    · have hne' : ¬ (n : Int) = 18446744073709551615 := by omega
      obtain ⟨sb, hsb⟩ : ∃ sb, sealedB key (nonceB n) ad b = sb := ⟨_, rfl⟩
      have e1 : oErr key true n ad b = if sb = true then 0 else 3 := by simp [oErr, lastN, hne, hsb]
      have e2 : oNum key true n ad b = if sb = true then n + 1 else n := by simp [oNum, lastN, hne, hsb]
      have e3 : oOut key true n ad b = if sb = true then openB key (nonceB n) b else [] := by simp [oOut, lastN, hne, hsb]
      rw [e1, e2, e3]
      have HSb := ci_hid hsb
      clear e1 e2 e3 hsb
      go_enter Tryd.func13, Tryd.ntmps13
      go_wp2
      obtain ⟨W, hW⟩ : ∃ W, w.drew = W := ⟨_, rfl⟩
      have hgr : Below w.heap.size w W := by rw [← hW]; exact (Below.refl _ _).drew
      have HWW := ci_hid hgr
      have HRW := ci_hid (HR.out.later hgr)
      have HCe : Hid (∀ w', Grows W w' → w'.cell? ⟨g, off, none⟩ = some (.slice (some ⟨kb, koff, none⟩) 32 kc) ∧ w'.cell? ⟨g, off + 2, none⟩ = some (.int .u64 (n : Int))) := fun w' hw' => by
        obtain ⟨c1, _, c3, _⟩ := (HRW.out.later hw').cells
        exact ⟨c1, c3⟩
      have hWe : Hid (w.drew = W) := hW
      clear hW hgr q1 q2 q3
      refine wp_region_sched' (G := Grows) (by kernel_rfl) Grows.refl Grows.trans (by kernel_rfl) [(0, true), (1, true), (2, true), (3, true), (4, true), (5, true), (6, true), (7, true), (9, true), (10, true), (8, false), (11, false), (12, true), (13, true), (14, true), (15, true), (16, true)] rfl (by kernel_rfl) ?_
      intro KK hKK
      rw [hWe.out]
      iterate 10 (refine sched_take rfl (by rfl) (v := ?_) ?_ ?_; rotate_left; (intro w' hw'; obtain ⟨q1, q2⟩ := HCe.out w' hw'; clear hw'; go_simp; with_reducible rfl); go_simp)
      refine sched_call (f := 26) (args := #[.int .u64 (n : Int)]) rfl (by rfl) (by go_simp) ?_
      refine (refNonce_any n (by omega) W).mono ?_
      rintro e w2 ⟨nb, nc, rfl, hb2, hnc1, hnc2, hB2⟩
      refine ⟨_, rfl, hb2, ?_⟩
      have HN2 := ci_hid hB2
      have HW2 := ci_hid (HWW.out.trans (hb2.mono HWW.out.size))
      have HR2 := ci_hid (HRW.out.later hb2)
      clear hb2 hB2 HRW HWW HCe
      go_simp
      refine sched_call (f := 29) (args := #[.slice (some ⟨kb, koff, none⟩) 32 kc, .slice (some ⟨nb, 0, none⟩) 12 nc, .slice a la ca, .slice c lc cc]) rfl (by rfl) (by go_simp) ?_
      refine (refOpen_any kb koff nb 0 kc nc key (nonceB n) a la ca ad c lc cc b w2 HR2.out.lo hnc1 HR2.out.hi hnc2 HR2.out.key HN2.out (HA.out.later HW2.out) hAn (HC.out.later HW2.out) hla hlc hcc hcm).mono ?_
      rintro e w3 ⟨v3, rfl, hb3, m3, own3⟩
      rw [HSb.out] at own3 ⊢
      refine ⟨_, rfl, hb3, ?_⟩
      have HR3 := ci_hid (HR2.out.later hb3)
      have HW3 := ci_hid (HW2.out.trans (hb3.mono HW2.out.size))
      have HO3 := ci_hid (own_lower own3 HW2.out.size)
      obtain ⟨q1, q2, q3, q4, q5⟩ := HR3.out.cells
      clear own3 hb3 HN2 HR2 HW2
      go_simp
      iterate 5 (refine sched_take rfl (by rfl) (v := ?_) ?_ ?_; rotate_left; (intro w' hw'; clear hw'; go_simp; with_reducible rfl); go_simp)
      refine sched_done hKK ?_
      clear hKK
      cases sb with
      | false =>
        go_wp2
        go_ret2
        exact ⟨_, rfl, But.below g HW3.out, HR3.out.same, 0, ⟨rfl, .inl ⟨rfl, rfl⟩⟩⟩
      | true =>
        have hw1 : IntKind.u64.wrap ((n : Int) + 1) = ((n + 1 : Nat) : Int) := by rw [IntKind.wrap_u64]; omega
        have HR4 := ci_hid (HR3.out.setN (n + 1))
        have HO4 : Hid ((w3.setCell ⟨g, off + 2, none⟩ (.int .u64 ((n + 1 : Nat) : Int))).ownsRow w.heap.size 5 1 v3 m3 ((openB key (nonceB n) b).map bv)) := own_but HO3.out (But.setCell w3 g _ _) (fun b' hb' e => by
          have := (own_base HO3.out b' hb').1
          cases e
          omega)
        have HG4 : Hid (w.grownBy (w3.setCell ⟨g, off + 2, none⟩ (.int .u64 ((n + 1 : Nat) : Int))) (some g)) := World.grownBy.trans (But.below g HW3.out) (But.setCell w3 g _ _)
        go_wp2
        go_ret2
        exact ⟨_, rfl, HG4.out, HR4.out, _, HO4.out⟩

theorem RC.setK {w : World} {g off t : Nat} {L : List Value} {kb koff kc : Nat} {key : List UInt8} {has : Bool} {n : Nat} (x : RC w g off t L kb koff kc key has n) (kb' koff' kc' : Nat) (key' : List UInt8) (hl : 32 ≤ kc') (hh : kc' ≤ 9223372036854775807) (hK : Byt w (some ⟨kb', koff', none⟩) 32 key') (hne : kb' ≠ g) :
    RC (w.setCell ⟨g, off, none⟩ (.slice (some ⟨kb', koff', none⟩) 32 kc')) g off t (L.set off (.slice (some ⟨kb', koff', none⟩) 32 kc')) kb' koff' kc' key' has n := by
  have h2 : off < L.length := (List.getElem?_eq_some_iff.1 x.k).1
  refine ⟨row_set x.row _ _, ?_, ?_, ?_, hl, hh, hK.but (But.setCell w g _ _) hne, hne⟩
  · rw [List.getElem?_set_self (by omega)]
  · rw [List.getElem?_set_ne (by omega)]; exact x.h
  · rw [List.getElem?_set_ne (by omega)]; exact x.n
end Go.Proofs.YtdancpcnjklifaaDoor
