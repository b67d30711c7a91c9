/- The walks over the program's tell and lay (blake); the tables. -/
import Derived.Test.YtdancpcnjklifaaDoorBlkB
import Derived.Test.YtdancpcnjklifaaDoorPartW
import Derived.Test.YtdancpcnjklifaaDoorBase
import Derived.Test.YtdancpcnjklifaaDoorArrB
namespace Go.Proofs.YtdancpcnjklifaaDoor
set_option linter.unusedVariables false
set_option maxRecDepth 100000
open Go.RowKit

/-- All rows of the table, one behind the other. -/
def rowsW : List Value := rowV 0 ++ rowV 1 ++ rowV 2 ++ rowV 3 ++ rowV 4 ++ rowV 5 ++ rowV 6 ++ rowV 7 ++ rowV 8 ++ rowV 9
/-- The program's tables are as their text lays them. -/
structure Tab (w : World) : Prop where
  iv : ∃ t fr, w.heap[0]? = some (.cells (ivB.map uv).toArray t fr)
  rows : ∃ t fr, w.heap[1]? = some (.cells rowsW.toArray t fr)
theorem Tab.lt {w : World} (h : Tab w) : 0 < w.heap.size ∧ 1 < w.heap.size := by
  obtain ⟨⟨t, fr, h1⟩, ⟨t', fr', h2⟩⟩ := h
  exact ⟨(Array.getElem?_eq_some_iff.1 h1).1, (Array.getElem?_eq_some_iff.1 h2).1⟩
theorem Tab.below {B : Nat} {w w' : World} (h : Tab w) (hb : Below B w w') (hB : 0 < B ∧ 1 < B) : Tab w' := by
  obtain ⟨⟨t, fr, h1⟩, ⟨t', fr', h2⟩⟩ := h
  exact ⟨⟨t, fr, by rw [hb.block _ hB.1]; exact h1⟩, ⟨t', fr', by rw [hb.block _ hB.2]; exact h2⟩⟩
theorem Tab.later {w w' : World} (h : Tab w) (hb : Below w.heap.size w w') : Tab w' := h.below hb h.lt
theorem Tab.but {w w' : World} {g : Nat} (h : Tab w) (hb : w.grownBy w' (some g)) (hg : g ≠ 0 ∧ g ≠ 1) : Tab w' := by
  have hl := h.lt
  obtain ⟨⟨t, fr, h1⟩, ⟨t', fr', h2⟩⟩ := h
  exact ⟨⟨t, fr, by rw [hb.block _ hl.1 (fun e => hg.1 (by cases e; rfl))]; exact h1⟩, ⟨t', fr', by rw [hb.block _ hl.2 (fun e => hg.2 (by cases e; rfl))]; exact h2⟩⟩
theorem Tab.word {w : World} (h : Tab w) (i : Nat) (hi : i < 8) : w.cell? ⟨0, i, none⟩ = some (.int .u32 ((at32 ivB i).toNat : Int)) := by
  obtain ⟨⟨t, fr, h1⟩, _⟩ := h
  rw [cell_of_row w _ i _ t fr h1, at32_get ivB i (by simpa [ivB] using hi)]
  simp [uv, show i < ivB.length by simpa [ivB] using hi]
theorem rowsW_part : ∀ i, i < 10 → ∃ A B, rowsW = A ++ rowV i ++ B ∧ A.length = 16 * i := by
  intro i hi
  have hl := rowV_length
  have : i = 0 ∨ i = 1 ∨ i = 2 ∨ i = 3 ∨ i = 4 ∨ i = 5 ∨ i = 6 ∨ i = 7 ∨ i = 8 ∨ i = 9 := by omega
  rcases this with rfl | rfl | rfl | rfl | rfl | rfl | rfl | rfl | rfl | rfl
  · exact ⟨[], rowV 1 ++ rowV 2 ++ rowV 3 ++ rowV 4 ++ rowV 5 ++ rowV 6 ++ rowV 7 ++ rowV 8 ++ rowV 9, by simp [rowsW], rfl⟩
  · exact ⟨rowV 0, rowV 2 ++ rowV 3 ++ rowV 4 ++ rowV 5 ++ rowV 6 ++ rowV 7 ++ rowV 8 ++ rowV 9, by simp [rowsW], by simp [hl]⟩
  · exact ⟨rowV 0 ++ rowV 1, rowV 3 ++ rowV 4 ++ rowV 5 ++ rowV 6 ++ rowV 7 ++ rowV 8 ++ rowV 9, by simp [rowsW], by simp [hl]⟩
  · exact ⟨rowV 0 ++ rowV 1 ++ rowV 2, rowV 4 ++ rowV 5 ++ rowV 6 ++ rowV 7 ++ rowV 8 ++ rowV 9, by simp [rowsW], by simp [hl]⟩
  · exact ⟨rowV 0 ++ rowV 1 ++ rowV 2 ++ rowV 3, rowV 5 ++ rowV 6 ++ rowV 7 ++ rowV 8 ++ rowV 9, by simp [rowsW], by simp [hl]⟩
  · exact ⟨rowV 0 ++ rowV 1 ++ rowV 2 ++ rowV 3 ++ rowV 4, rowV 6 ++ rowV 7 ++ rowV 8 ++ rowV 9, by simp [rowsW], by simp [hl]⟩
  · exact ⟨rowV 0 ++ rowV 1 ++ rowV 2 ++ rowV 3 ++ rowV 4 ++ rowV 5, rowV 7 ++ rowV 8 ++ rowV 9, by simp [rowsW], by simp [hl]⟩
  · exact ⟨rowV 0 ++ rowV 1 ++ rowV 2 ++ rowV 3 ++ rowV 4 ++ rowV 5 ++ rowV 6, rowV 8 ++ rowV 9, by simp [rowsW], by simp [hl]⟩
  · exact ⟨rowV 0 ++ rowV 1 ++ rowV 2 ++ rowV 3 ++ rowV 4 ++ rowV 5 ++ rowV 6 ++ rowV 7, rowV 9, by simp [rowsW], by simp [hl]⟩
  · exact ⟨rowV 0 ++ rowV 1 ++ rowV 2 ++ rowV 3 ++ rowV 4 ++ rowV 5 ++ rowV 6 ++ rowV 7 ++ rowV 8, [], by simp [rowsW], by simp [hl]⟩
theorem Tab.row {w : World} (h : Tab w) (i : Nat) (hi : i < 10) (p : Nat) (hp : 16 * i = p) : ∀ j v, (rowV i)[j]? = some v → w.cell? ⟨1, p + j, none⟩ = some v := by
  obtain ⟨_, ⟨t, fr, h2⟩⟩ := h
  obtain ⟨A, B, e, hA⟩ := rowsW_part i hi
  rw [e] at h2
  exact part_cells A (rowV i) B h2 p (by omega)

def zero16B : Array Value := ((List.replicate 16 0#32).map uv).toArray
/-- The first k words, and 0s behind them. -/
def toldTo (p : List UInt8) (k : Nat) : List (BitVec 32) := wordsTo p k ++ List.replicate (16 - k) 0#32
theorem toldTo_length (p : List UInt8) (k : Nat) (hk : k ≤ 16) : (toldTo p k).length = 16 := by simp [toldTo, wordsTo_length]; omega
theorem toldTo_step (p : List UInt8) (k : Nat) (hk : k < 16) : (toldTo p k).set k (wordAt p k) = toldTo p (k + 1) := by
  unfold toldTo
  rw [List.set_append_right _ _ (by rw [wordsTo_length]; omega), wordsTo_length, Nat.sub_self, wordsTo_succ, show 16 - k = (16 - (k + 1)) + 1 by omega, List.replicate_succ, List.set_cons_zero]
  simp
/-- While a part is told. -/
structure Tl (w : World) (p : List UInt8) (l : List (BitVec 32)) (W : World) : Prop where
  p : Arr W w.heap.size 91 p
  res : W.heap[w.heap.size + 1]? = some (.cells zero16B 111 (0, 0))
  m : Wd W (w.heap.size + 1 + 1) 111 l
  bel : Below w.heap.size w W
theorem Tl.new (w : World) (p : List UInt8) : Tl w p (toldTo p 0) (((w.alloc (.cells (p.map bv).toArray 91)).alloc (.cells zero16B 111)).alloc (.cells zero16B 111)) := by
  have h0 := Arr.new w 91 p
  have h1 := heap_alloc_new (w.alloc (.cells (p.map bv).toArray 91)) (.cells zero16B 111)
  have h2 := heap_alloc_new ((w.alloc (.cells (p.map bv).toArray 91)).alloc (.cells zero16B 111)) (.cells zero16B 111)
  rw [World.size_alloc] at h1
  rw [World.size_alloc, World.size_alloc] at h2
  refine ⟨?_, ?_, h2, ?_⟩
  · unfold Arr
    rw [Below.heap_alloc _ _ _ (by simp; omega), Below.heap_alloc _ _ _ (by simp)]; exact h0
  · rw [Below.heap_alloc _ _ _ (by simp)]; exact h1
  · exact (((Below.refl _ _).alloc (Nat.le_refl _) _).alloc (by simp) _).alloc (by simp; omega) _
theorem Tl.set {w W : World} {p : List UInt8} {l : List (BitVec 32)} (t : Tl w p l W) (k : Nat) (x : BitVec 32) : Tl w p (l.set k x) (W.setCell ⟨w.heap.size + 1 + 1, k, none⟩ (uv x)) :=
  ⟨t.p.other (by omega) _ _, by rw [heap_setCell_other _ ⟨w.heap.size + 1 + 1, k, none⟩ _ _ (by simp)]; exact t.res, t.m.set k x, t.bel.setCell (by simp; omega) _⟩

set_option maxHeartbeats 1000000 in
set_option maxRecDepth 100000 in
theorem btell_any (p : List UInt8) (w : World) (hp : p.length = 64) :
    Calls Tryd.prog 71 #[.agg (p.map bv).toArray] w fun e w' => e = .returned (.agg ((wordsTo p 16).map uv).toArray) ∧ Below w.heap.size w w' := by
  have HT0 : Hid (Tl w p (toldTo p 0) (((w.alloc (.cells (p.map bv).toArray 91)).alloc (.cells zero16B 111)).alloc (.cells zero16B 111))) := Tl.new w p
  go_enter Tryd.func71, Tryd.ntmps71
  go_wp2
  refine from_world (P := Code.wp Tryd.prog _ _ _) (R := fun W => Hid (Tl w p (toldTo p 0) W)) _ HT0 ?_
  intro W0 HT1
  clear HT0
  go_loopw [7] (fun i wr => ∃ k : Nat, k ≤ 16 ∧ i = .int .i64 k ∧ Hid (Tl w p (toldTo p k) wr)) (fun i _ => 16 - (intOf i).toNat)
  case atStart => exact ⟨0, by omega, rfl, HT1⟩
  case round =>
    clear HT1
    obtain ⟨k, hk, rfl, hT⟩ := hrel
    by_cases hlt : k < 16
    · obtain ⟨q, hq⟩ : ∃ q, 4 * k = q := ⟨_, rfl⟩
      have e1 : (k : Int) * 4 = (q : Int) := by omega
      have i1 : (k : Int) < 16 := by omega
      have HBr : Hid (Byt wr (some ⟨w.heap.size, 0, none⟩) 64 p) := hT.out.p.byt 64 hp
      have HV : Hid ((getV p false q 4 : Int) % 4294967296 = ((wordAt p k).toNat : Int)) := by
        show _ = _
        have := getV4_lt p q
        rw [wordAt_val, hq]; omega
      obtain ⟨W, hW⟩ : ∃ W, wr.setCell ⟨w.heap.size + 1 + 1, k, none⟩ (uv (wordAt p k)) = W := ⟨_, rfl⟩
      have HT : Hid (Tl w p (toldTo p (k + 1)) W) := by
        rw [← hW, ← toldTo_step p k hlt]
        exact hT.out.set k _
      have HW : Hid (wr.setCell ⟨w.heap.size + 1 + 1, k, none⟩ (.int .u32 ((wordAt p k).toNat : Int)) = W) := hW
      obtain ⟨cc, fr⟩ := hT.out.m.word k (by rw [toldTo_length _ _ hk]; omega)
      clear hW hT
      go_wp2_with fail
      refine (get_yes w.heap.size 0 64 64 q 4 false p wr (by unfold maxLen; omega) (by omega) HBr.out (by omega) (by omega) (by omega)).mono ?_
      rintro e w' ⟨rfl, rfl⟩
      go_wp2
      rw [HV.out, HW.out]
      exact ⟨⟨k + 1, by omega, by go_num, HT⟩, by simp [intOf]; omega⟩
    · have ek : k = 16 := by omega
      have hkr : ¬ (k : Int) < 16 := by omega
      obtain ⟨M, hM⟩ : ∃ M, wordsTo p 16 = M := ⟨_, rfl⟩
      have hMl : M.length = 16 := by rw [← hM, wordsTo_length]
      have HM : Hid (wordsTo p 16 = M) := hM
      have HT : Hid (Tl w p M wr) := by
        have := hT.out
        rw [ek] at this
        have e : toldTo p 16 = M := by rw [← hM]; simp [toldTo]
        rw [e] at this
        exact this
      have IB : Hid ((Tryd.prog.info? 111).map (·.size) = some (M.map uv).toArray.size) := info_words (n := 16) (by kernel_rfl) M hMl
      have hst := store_row wr (w.heap.size + 1) _ _ (M.map uv) HT.out.res (by simp [hMl, zero16B]) (uv_oneCell M)
      have hrow := setRow_heap wr (w.heap.size + 1) _ (M.map uv).toArray _ _ HT.out.res
      have HBel : Hid (Below w.heap.size w (wr.setRow (w.heap.size + 1) (M.map uv).toArray)) := below_setRow HT.out.bel (by omega) _
      obtain ⟨W4, hW4⟩ : ∃ W4, wr.setRow (w.heap.size + 1) (M.map uv).toArray = W4 := ⟨_, rfl⟩
      rw [hW4] at hst hrow HBel
      have HRow : Hid (W4.heap[w.heap.size + 1]? = some (.cells (M.map uv).toArray 111 (0, 0))) := hrow
      clear hrow hW4 hT hM
      go_wp2_with (first | refine wpList_load_row rfl 111 _ rfl (w.heap.size + 1 + 1) rfl 111 _ (0, 0) _ HT.out.m Tryd.underlying111 rfl IB.out ?_)
      (try simp only [Exit.inBlock, Exit.then])
      refine bodyPost_ret (results_cell_row rfl _ _ (w.heap.size + 1) 111 _ (0, 0) _ rfl HRow.out Tryd.underlying111 rfl IB.out) rfl ?_
      exact ⟨by rw [HM.out], HBel.out⟩
end Go.Proofs.YtdancpcnjklifaaDoor
