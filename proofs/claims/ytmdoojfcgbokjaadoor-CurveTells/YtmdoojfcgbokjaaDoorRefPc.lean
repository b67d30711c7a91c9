/- The walks over the document's Plus and Times. -/
import Derived.Test.YtmdoojfcgbokjaaDoorRefPb
namespace Go.Proofs.YtmdoojfcgbokjaaDoor
set_option linter.unusedVariables false
open Go.RowKit

/-- A whole row of whole numbers in a block. -/
def IRow (w : World) (g : Nat) (o : List Nat) : Prop := w.heap[g]? = some (.cells (o.map iv).toArray 3 (0, 0))
theorem IRow.set {w : World} {g : Nat} {o : List Nat} (h : IRow w g o) (i x : Nat) : IRow (w.setCell ⟨g, i, none⟩ (.int .i64 (x : Int))) g (o.set i x) := by
  have := heap_setCell_same w g i _ _ (iv x) h
  unfold IRow
  rw [List.map_set]
  simpa [iv] using this
theorem IRow.at_ {w : World} {g : Nat} {o : List Nat} (h : IRow w g o) (i : Nat) (hi : i < o.length) : w.cell? ⟨g, i, none⟩ = some (.int .i64 (atD o i : Int)) ∧ w.frozen? ⟨g, i, none⟩ = false := by
  refine ⟨?_, frozen_of_row w g i _ _ h⟩
  rw [cell_of_row w g i _ _ (0, 0) h, atD_get o i hi]
  simp [hi, iv]
theorem IRow.ints {w : World} {g : Nat} {o : List Nat} (h : IRow w g o) : Ints w (some ⟨g, 0, none⟩) o.length o :=
  ⟨rfl, .inr ⟨g, 0, rfl, fun i hi => by rw [Nat.zero_add]; exact (h.at_ i hi).1⟩⟩
/-- 'make([]int, n)'. -/
theorem make_ints (w : World) (n : Nat) (h : n ≤ 2000000) :
    (Instr.makeSlice 53 (.int .i64 (n : Int)) (.int .i64 (n : Int))).run Tryd.prog w = .ok (.slice (some ⟨w.heap.size, 0, none⟩) n n) (w.alloc (.cells ((List.replicate n 0).map iv).toArray 3)) := by
  obtain ⟨i0, hi, hz0, hz1, hz2⟩ := info_parts Tryd.infoI64
  have hr := run_make (P := Tryd.prog) w 53 3 i0 (.int .i64 0) Tryd.underlying53 hi hz0 .i64 .i64 (n : Int) (n : Int) (by omega) (by omega) (by rw [hz2]; omega) (by omega)
  have e1 : ((n : Int)).toNat = n := by omega
  rw [e1, hz1, Nat.mul_one] at hr
  have e : (madeCells (Value.int .i64 0).cells n).toList = List.replicate n (.int .i64 0) := toList_madeCells_one _ _
  have e2 : madeCells (Value.int .i64 0).cells n = ((List.replicate n 0).map iv).toArray := by
    rw [← Array.toList_inj, e]
    simp [iv]
  rw [e2] at hr
  exact hr
/-- A row of the walk's own, and all that was there. -/
structure Mine (w : World) (g : Nat) (o : List Nat) (wr : World) : Prop where
  row : IRow wr g o
  bel : Below w.heap.size w wr
theorem Mine.set {w wr : World} {g : Nat} {o : List Nat} (h : Mine w g o wr) (hg : w.heap.size ≤ g) (i x : Nat) : Mine w g (o.set i x) (wr.drew.setCell ⟨g, i, none⟩ (.int .i64 (x : Int))) :=
  ⟨IRow.set (w := wr.drew) h.row i x, h.bel.drew.setCell hg _⟩
theorem make_mine (w : World) (n : Nat) (h : n ≤ 2000000) :
    ∃ W, (Instr.makeSlice 53 (.int .i64 (n : Int)) (.int .i64 (n : Int))).run Tryd.prog w = .ok (.slice (some ⟨w.heap.size, 0, none⟩) n n) W ∧ Mine w w.heap.size (List.replicate n 0) W :=
  ⟨_, make_ints w n h, heap_alloc_new w _, (Below.refl _ _).alloc (Nat.le_refl _) _⟩

/-- The sum while the first number is laid down. -/
structure PlA (l : List Nat) (n k : Nat) (o : List Nat) : Prop where
  len : o.length = n
  val : valD o = valD (l.take k)
  small : ∀ j, atD o j ≤ 255
  zero : ∀ j, k ≤ j → atD o j = 0
theorem PlA.step {l : List Nat} {n k : Nat} {o : List Nat} (h : PlA l n k o) (hk : k < l.length) (hn : k < n) (hd : ∀ x ∈ l, x < 256) : PlA l n (k + 1) (o.set k (atD o k + atD l k)) := by
  have hx := atD_lt l hd k
  have hz := h.zero k (Nat.le_refl _)
  have hlen := h.len
  refine ⟨by rw [List.length_set]; exact hlen, ?_, fun j => ?_, fun j hj => ?_⟩
  · rw [valD_set o k _ (by omega), h.val, valD_take_succ l k hk]
  · by_cases e : k = j
    · subst e; rw [atD_set_same _ _ _ (by omega)]; omega
    · rw [atD_set_other _ _ _ _ e]; exact h.small j
  · rw [atD_set_other _ _ _ _ (by omega)]; exact h.zero j (by omega)
/-- The sum while the second one is added. -/
structure PlB (l m : List Nat) (n k : Nat) (o : List Nat) : Prop where
  len : o.length = n
  val : valD o = valD l + valD (m.take k)
  small : ∀ j, atD o j ≤ 510
  rest : ∀ j, k ≤ j → atD o j ≤ 255
theorem PlB.step {l m : List Nat} {n k : Nat} {o : List Nat} (h : PlB l m n k o) (hk : k < m.length) (hn : k < n) (hd : ∀ x ∈ m, x < 256) : PlB l m n (k + 1) (o.set k (atD o k + atD m k)) := by
  have hx := atD_lt m hd k
  have hz := h.rest k (Nat.le_refl _)
  have hlen := h.len
  refine ⟨by rw [List.length_set]; exact hlen, ?_, fun j => ?_, fun j hj => ?_⟩
  · rw [valD_set o k _ (by omega), h.val, valD_take_succ m k hk, Nat.add_assoc]
  · by_cases e : k = j
    · subst e; rw [atD_set_same _ _ _ (by omega)]; omega
    · rw [atD_set_other _ _ _ _ e]; exact h.small j
  · rw [atD_set_other _ _ _ _ (by omega)]; exact h.rest j (by omega)
theorem mem_le (o : List Nat) (b : Nat) (h : ∀ j, atD o j ≤ b) : ∀ x ∈ o, x ≤ b := by
  intro x hx
  obtain ⟨i, hi, rfl⟩ := List.mem_iff_getElem.1 hx
  have := h i
  rwa [atD_get o i hi] at this

set_option maxHeartbeats 1000000 in
set_option maxRecDepth 100000 in
theorem refPlus_any (a : Option Addr) (len cap : Nat) (l : List Nat) (b : Option Addr) (lenb capb : Nat) (m : List Nat) (w : World) (hA : Ints w a len l) (hB : Ints w b lenb m) (hdl : ∀ x ∈ l, x < 256) (hdm : ∀ x ∈ m, x < 256) (hlm : len ≤ 20000) (hlb : lenb ≤ 20000) :
    Calls Tryd.prog 53 #[.slice a len cap, .slice b lenb capb] w fun e w' => ∃ a' n cap', e = .returned (.slice a' n cap') ∧ Below w.heap.size w w' ∧ Ints w' a' n (dig (valD l + valD m)) ∧ n ≤ cap' := by
  have hl := hA.1
  have hm := hB.1
  obtain ⟨n, hn⟩ : ∃ n, n = max len lenb := ⟨_, rfl⟩
  have e1 : (if len < lenb then (lenb : Int) else (len : Int)) = (n : Int) := by split <;> omega
  have hn1 : len ≤ n := by omega
  have hn2 : lenb ≤ n := by omega
  have hn3 : n ≤ 20000 := by omega
  clear hn
  obtain ⟨W1, hmk, hM0⟩ := make_mine w n (by omega)
  have HM0 : Hid (Mine w w.heap.size (List.replicate n 0) W1) := hM0
  clear hM0
  have HA : Hid (Ints w a len l) := hA
  have HB : Hid (Ints w b lenb m) := hB
  have HDL : Hid (∀ x ∈ l, x < 256) := hdl
  have HDM : Hid (∀ x ∈ m, x < 256) := hdm
  clear hA hB hdl hdm
  go_enter Tryd.func53, Tryd.ntmps53
  go_wp2
  clear hmk e1
  have HP0 : Hid (PlA l n 0 (List.replicate n 0)) := ⟨by simp, by simp [valD_replicate, valD], fun j => by rw [atD_replicate]; omega, fun j _ => atD_replicate n j⟩
  go_loopw [6] (fun i wr => ∃ (k : Nat) (o : List Nat), k ≤ len ∧ i = .int .i64 k ∧ Hid (PlA l n k o) ∧ Hid (Mine w w.heap.size o wr)) (fun i _ => len - (intOf i).toNat)
  case atStart => exact ⟨0, _, Nat.zero_le _, rfl, HP0, HM0⟩
  case round =>
    clear HP0 HM0
    obtain ⟨k, o, hk, rfl, hP, hM⟩ := hrel
    by_cases hlt : k < len
    · obtain ⟨ba, offa, rfl, hc0⟩ := HA.out.at_ k hlt
      obtain ⟨W, hW⟩ : ∃ W, wr.drew = W := ⟨_, rfl⟩
      have hc : W.cell? ⟨ba, offa + k, none⟩ = some (.int .i64 (atD l k : Int)) := by
        rw [← hW, hM.out.bel.drew.cell (p := ⟨ba, offa + k, none⟩) (World.block_lt_of_cell? w _ hc0)]; exact hc0
      have ho := hP.out.len
      have hd : W.cell? ⟨w.heap.size, k, none⟩ = some (.int .i64 (atD o k : Int)) := by rw [← hW]; exact (hM.out.row.at_ k (by omega)).1
      have hf : W.frozen? ⟨w.heap.size, k, none⟩ = false := by rw [← hW]; exact (hM.out.row.at_ k (by omega)).2
      have hx := atD_lt l HDL.out k
      have hy := hP.out.small k
      have hs : IntKind.i64.wrap ((atD o k : Int) + (atD l k : Int)) = ((atD o k + atD l k : Nat) : Int) := by rw [IntKind.wrap_i64]; omega
      have HP : Hid (PlA l n (k + 1) (o.set k (atD o k + atD l k))) := hP.out.step (by omega) (by omega) HDL.out
      have HM : Hid (Mine w w.heap.size (o.set k (atD o k + atD l k)) (W.setCell ⟨w.heap.size, k, none⟩ (.int .i64 ((atD o k + atD l k : Nat) : Int)))) := by rw [← hW]; exact hM.out.set (Nat.le_refl _) k _
      have i1 : (k : Int) < (len : Int) := by omega
      have i2 : (k : Int) < (n : Int) := by omega
      have HW : Hid (wr.drew = W) := hW
      generalize atD o k + atD l k = s at HM HP hs
      clear hc0 hP hM hW
      go_wp2
      refine wp_region_sched' (G := Stays) (by kernel_rfl) Stays.refl Stays.trans (by kernel_rfl) [(0, true), (1, true), (2, true), (3, true), (4, true), (5, true), (6, true), (7, true), (8, true), (9, true), (10, true), (11, true), (12, false)] rfl (by kernel_rfl) ?_
      intro KK hKK
      rw [HW.out]
      iterate 12 (refine sched_take rfl (by rfl) (v := ?_) ?_ ?_; rotate_left; (rintro w' rfl; go_simp; with_reducible rfl); go_simp)
      refine sched_store rfl (by rfl) (w' := W.setCell ⟨w.heap.size, k, none⟩ (.int .i64 (s : Int))) (by go_simp) (by kernel_rfl) ?_
      go_simp
      refine sched_done hKK ?_
      go_wp2
      exact ⟨⟨k + 1, _, by omega, by go_num, HP, HM⟩, by simp [intOf]; omega⟩
    · have ek : k = len := by omega
      have hki : ¬ (k : Int) < (len : Int) := by omega
      have HQ0 : Hid (PlB l m n 0 o) := by
        have hv := hP.out.val
        rw [List.take_of_length_le (by omega)] at hv
        exact ⟨hP.out.len, by rw [hv]; simp [valD], fun j => by have := hP.out.small j; omega, fun j _ => hP.out.small j⟩
      clear hP
      go_wp2
      go_loopw [7] (fun i wr => ∃ (k : Nat) (o : List Nat), k ≤ lenb ∧ i = .int .i64 k ∧ Hid (PlB l m n k o) ∧ Hid (Mine w w.heap.size o wr)) (fun i _ => lenb - (intOf i).toNat)
      case atStart => exact ⟨0, _, Nat.zero_le _, rfl, HQ0, hM⟩
      case round =>
        clear HQ0 hM
        obtain ⟨k, o, hk, rfl, hP, hM⟩ := hrel
        by_cases hlt : k < lenb
        · obtain ⟨ba, offa, rfl, hc0⟩ := HB.out.at_ k hlt
          obtain ⟨W, hW⟩ : ∃ W, wr.drew = W := ⟨_, rfl⟩
          have hc : W.cell? ⟨ba, offa + k, none⟩ = some (.int .i64 (atD m k : Int)) := by
            rw [← hW, hM.out.bel.drew.cell (p := ⟨ba, offa + k, none⟩) (World.block_lt_of_cell? w _ hc0)]; exact hc0
          have ho := hP.out.len
          have hd : W.cell? ⟨w.heap.size, k, none⟩ = some (.int .i64 (atD o k : Int)) := by rw [← hW]; exact (hM.out.row.at_ k (by omega)).1
          have hf : W.frozen? ⟨w.heap.size, k, none⟩ = false := by rw [← hW]; exact (hM.out.row.at_ k (by omega)).2
          have hx := atD_lt m HDM.out k
          have hy := hP.out.small k
          have hs : IntKind.i64.wrap ((atD o k : Int) + (atD m k : Int)) = ((atD o k + atD m k : Nat) : Int) := by rw [IntKind.wrap_i64]; omega
          have HP : Hid (PlB l m n (k + 1) (o.set k (atD o k + atD m k))) := hP.out.step (by omega) (by omega) HDM.out
          have HM : Hid (Mine w w.heap.size (o.set k (atD o k + atD m k)) (W.setCell ⟨w.heap.size, k, none⟩ (.int .i64 ((atD o k + atD m k : Nat) : Int)))) := by rw [← hW]; exact hM.out.set (Nat.le_refl _) k _
          have i1 : (k : Int) < (lenb : Int) := by omega
          have i2 : (k : Int) < (n : Int) := by omega
          have HW : Hid (wr.drew = W) := hW
          generalize atD o k + atD m k = s at HM HP hs
          clear hc0 hP hM hW
          go_wp2
          refine wp_region_sched' (G := Stays) (by kernel_rfl) Stays.refl Stays.trans (by kernel_rfl) [(0, true), (1, true), (2, true), (3, true), (4, true), (5, true), (6, true), (7, true), (8, true), (9, true), (10, true), (11, true), (12, false)] rfl (by kernel_rfl) ?_
          intro KK hKK
          rw [HW.out]
          iterate 12 (refine sched_take rfl (by rfl) (v := ?_) ?_ ?_; rotate_left; (rintro w' rfl; go_simp; with_reducible rfl); go_simp)
          refine sched_store rfl (by rfl) (w' := W.setCell ⟨w.heap.size, k, none⟩ (.int .i64 (s : Int))) (by go_simp) (by kernel_rfl) ?_
          go_simp
          refine sched_done hKK ?_
          go_wp2
          exact ⟨⟨k + 1, _, by omega, by go_num, HP, HM⟩, by simp [intOf]; omega⟩
        · have ek2 : k = lenb := by omega
          have hki2 : ¬ (k : Int) < (lenb : Int) := by omega
          have HV : Hid (valD o = valD l + valD m) := by
            have hv := hP.out.val
            rw [List.take_of_length_le (by omega)] at hv
            exact hv
          have HI : Hid (Ints wr (some ⟨w.heap.size, 0, none⟩) n o) := by
            have := hM.out.row.ints
            rwa [hP.out.len] at this
          have HS : Hid (∀ x ∈ o, x ≤ 2 ^ 50) := fun x hx => Nat.le_trans (mem_le o 510 hP.out.small x hx) (by decide)
          clear hP
          go_wp2_with fail
          refine (refCarry_any _ n n o wr HI.out HS.out (Nat.le_refl _) (by omega)).mono ?_
          rintro e w2 ⟨a2, n2, c2, rfl, hb2, hI2, hc2⟩
          have HR : Hid (Ints w2 a2 n2 (dig (valD l + valD m))) := by rw [← HV.out]; exact hI2
          have HB2 : Hid (Below w.heap.size w w2) := hM.out.bel.trans (hb2.mono hM.out.bel.size)
          clear hI2 hb2
          go_wp2
          go_ret
          exact ⟨a2, n2, c2, rfl, HB2.out, HR.out, hc2⟩
end Go.Proofs.YtmdoojfcgbokjaaDoor
