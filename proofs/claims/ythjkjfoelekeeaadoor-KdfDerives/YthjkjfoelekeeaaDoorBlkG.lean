/- A hash, as it lies in memory; what it has, part by part. -/
import Derived.Test.YthjkjfoelekeeaaDoorBlkF
import Derived.Lib.SliceRun
namespace Go.Proofs.YthjkjfoelekeeaaDoor
set_option linter.unusedVariables false
open Go.RowKit

theorem bparts_append (B x : List UInt8) : ∀ k, 64 * k ≤ B.length → bparts (B ++ x) k = bparts B k
  | 0, _ => rfl
  | k + 1, h => by
    rw [bparts, bparts, bparts_append B x k (by omega)]
    congr 1
    unfold cutB
    rw [List.drop_append_of_le_length (by omega), List.take_append_of_le_length (by simp; omega)]
theorem bahead_of (n a : Nat) (h1 : 64 * a < n) (h2 : n ≤ 64 * a + 64) : bahead n = a := by unfold bahead; omega

/-- The cells of a hash. -/
def hashV (m : List (BitVec 32)) (t : Nat) (p : List UInt8) (h : Nat) : List Value := m.map uv ++ ([.int .u64 (t : Int)] ++ (p.map bv ++ [.int .i64 (h : Int)]))
/-- A hash in its block. -/
structure Hs (w : World) (g : Nat) (m : List (BitVec 32)) (t : Nat) (p : List UInt8) (h : Nat) : Prop where
  row : w.heap[g]? = some (.cells (hashV m t p h).toArray 55 (0, 0))
  m8 : m.length = 8
  p64 : p.length = 64
theorem Hs.lt {w : World} {g t h : Nat} {m : List (BitVec 32)} {p : List UInt8} (x : Hs w g m t p h) : g < w.heap.size := (Array.getElem?_eq_some_iff.1 x.row).1
theorem Hs.cell {w : World} {g t h : Nat} {m : List (BitVec 32)} {p : List UInt8} (x : Hs w g m t p h) (i : Nat) : w.cell? ⟨g, i, none⟩ = (hashV m t p h)[i]? ∧ w.frozen? ⟨g, i, none⟩ = false := by
  refine ⟨?_, frozen_of_row w g i _ _ x.row⟩
  rw [cell_of_row w g i _ _ (0, 0) x.row]
  simp
theorem Hs.told {w : World} {g t h : Nat} {m : List (BitVec 32)} {p : List UInt8} (x : Hs w g m t p h) : w.cell? ⟨g, 8, none⟩ = some (.int .u64 (t : Int)) ∧ w.frozen? ⟨g, 8, none⟩ = false := by
  refine ⟨?_, (x.cell 8).2⟩
  rw [(x.cell 8).1]
  simp [hashV, x.m8]
theorem Hs.held {w : World} {g t h : Nat} {m : List (BitVec 32)} {p : List UInt8} (x : Hs w g m t p h) : w.cell? ⟨g, 73, none⟩ = some (.int .i64 (h : Int)) ∧ w.frozen? ⟨g, 73, none⟩ = false := by
  refine ⟨?_, (x.cell 73).2⟩
  rw [(x.cell 73).1]
  simp [hashV, x.m8, x.p64]
theorem Hs.made {w : World} {g t h : Nat} {m : List (BitVec 32)} {p : List UInt8} (x : Hs w g m t p h) : ∀ j v, (m.map uv)[j]? = some v → w.cell? ⟨g, 0 + j, none⟩ = some v :=
  part_cells [] (m.map uv) _ (by have := x.row; simpa [hashV] using this) 0 rfl
theorem Hs.last {w : World} {g t h : Nat} {m : List (BitVec 32)} {p : List UInt8} (x : Hs w g m t p h) : ∀ j v, (p.map bv)[j]? = some v → w.cell? ⟨g, 9 + j, none⟩ = some v :=
  part_cells (m.map uv ++ [.int .u64 (t : Int)]) (p.map bv) [.int .i64 (h : Int)] (by have := x.row; simpa [hashV] using this) 9 (by simp [x.m8])
theorem Hs.but {w w' : World} {g g' t h : Nat} {m : List (BitVec 32)} {p : List UInt8} (x : Hs w g m t p h) (hne : g ≠ g') (hb : w.grownBy w' (some g')) : Hs w' g m t p h :=
  ⟨by rw [hb.block g x.lt (fun e => hne (by cases e; rfl))]; exact x.row, x.m8, x.p64⟩
theorem Hs.below {B : Nat} {w w' : World} {g t h : Nat} {m : List (BitVec 32)} {p : List UInt8} (x : Hs w g m t p h) (hb : Below B w w') (hg : g < B) : Hs w' g m t p h :=
  ⟨by rw [hb.block g hg]; exact x.row, x.m8, x.p64⟩
theorem Hs.later {w w' : World} {g t h : Nat} {m : List (BitVec 32)} {p : List UInt8} (x : Hs w g m t p h) (hb : Below w.heap.size w w') : Hs w' g m t p h := x.below hb x.lt
theorem Hs.setHeld {w : World} {g t h : Nat} {m : List (BitVec 32)} {p : List UInt8} (x : Hs w g m t p h) (h' : Nat) : Hs (w.setCell ⟨g, 73, none⟩ (.int .i64 (h' : Int))) g m t p h' := by
  refine ⟨?_, x.m8, x.p64⟩
  rw [heap_setCell_same w g 73 _ _ _ x.row]
  congr 2
  simp [hashV, x.m8, x.p64]
theorem Hs.setTold {w : World} {g t h : Nat} {m : List (BitVec 32)} {p : List UInt8} (x : Hs w g m t p h) (t' : Nat) : Hs (w.setCell ⟨g, 8, none⟩ (.int .u64 (t' : Int))) g m t' p h := by
  refine ⟨?_, x.m8, x.p64⟩
  rw [heap_setCell_same w g 8 _ _ _ x.row]
  congr 2
  simp [hashV, x.m8]
theorem Hs.putMade {w : World} {g t h : Nat} {m : List (BitVec 32)} {p : List UInt8} (x : Hs w g m t p h) (m' : List (BitVec 32)) (hm : m'.length = 8) :
    (storeCells ⟨g, 0, none⟩ (m'.map uv)).run Tryd.prog w = .ok () (w.setRow g (hashV m' t p h).toArray) ∧ Hs (w.setRow g (hashV m' t p h).toArray) g m' t p h := by
  have hst := run_storeCells_part (P := Tryd.prog) g 0 _ (m'.map uv) 0 _ w x.row (by simp [hashV, x.m8, hm]) (uv_oneCell m')
  have e : (hashV m t p h).toArray.toList.take (0 + 0) ++ m'.map uv ++ (hashV m t p h).toArray.toList.drop (0 + 0 + (m'.map uv).length) = hashV m' t p h := by
    simp [hashV, hm, x.m8]
  rw [e] at hst
  exact ⟨hst, setRow_heap w g _ _ _ _ x.row, hm, x.p64⟩
theorem Hs.putLast {w : World} {g t h : Nat} {m : List (BitVec 32)} {p : List UInt8} (x : Hs w g m t p h) (q : List UInt8) (hq : h + q.length ≤ 64) :
    ((hashV m t p h).toArray.toList.take (9 + h) ++ q.map bv ++ (hashV m t p h).toArray.toList.drop (9 + h + (q.map bv).length)) = hashV m t (p.take h ++ q ++ p.drop (h + q.length)) h ∧
    Hs (w.setRow g (hashV m t (p.take h ++ q ++ p.drop (h + q.length)) h).toArray) g m t (p.take h ++ q ++ p.drop (h + q.length)) h := by
  have h8 := x.m8
  have h64 := x.p64
  refine ⟨?_, setRow_heap w g _ _ _ _ x.row, x.m8, by simp; omega⟩
  have e1 : (hashV m t p h).take (9 + h) = m.map uv ++ ([.int .u64 (t : Int)] ++ (p.take h).map bv) := by
    unfold hashV
    rw [List.take_append, List.take_of_length_le (by simp; omega), List.length_map, h8, show 9 + h - 8 = h + 1 by omega, List.take_append, List.take_of_length_le (by simp), List.length_singleton, Nat.add_sub_cancel, List.take_append_of_le_length (by simp; omega), List.map_take]
  have e2 : (hashV m t p h).drop (9 + h + q.length) = (p.drop (h + q.length)).map bv ++ [.int .i64 (h : Int)] := by
    unfold hashV
    rw [List.drop_append, List.drop_eq_nil_of_le (by simp; omega), List.length_map, h8, show 9 + h + q.length - 8 = h + q.length + 1 by omega, List.drop_append, List.drop_eq_nil_of_le (by simp), List.length_singleton, Nat.add_sub_cancel, List.drop_append_of_le_length (by simp; omega), List.map_drop]
    simp
  simp only [List.length_map]
  rw [e1, e2]
  simp [hashV]
/-- A hash that has the bytes C, of which the first a parts are made. -/
structure HX (w : World) (g a : Nat) (C p : List UInt8) : Prop where
  hs : Hs w g (bparts C a) C.length p (C.length - 64 * a)
  lo : 64 * a ≤ C.length
  hi : C.length ≤ 64 * a + 64
  eq : p.take (C.length - 64 * a) = C.drop (64 * a)
/-- A hash that has the bytes C. -/
def HashIs (w : World) (g : Nat) (C : List UInt8) : Prop := ∃ a p, bahead C.length = a ∧ HX w g a C p
theorem HashIs.later {w w' : World} {g : Nat} {C : List UInt8} (h : HashIs w g C) (hb : Below w.heap.size w w') : HashIs w' g C := by
  obtain ⟨a, p, h1, h2⟩ := h
  exact ⟨a, p, h1, h2.hs.later hb, h2.lo, h2.hi, h2.eq⟩
theorem HashIs.below {B : Nat} {w w' : World} {g : Nat} {C : List UInt8} (h : HashIs w g C) (hb : Below B w w') (hg : g < B) : HashIs w' g C := by
  obtain ⟨a, p, h1, h2⟩ := h
  exact ⟨a, p, h1, h2.hs.below hb hg, h2.lo, h2.hi, h2.eq⟩
theorem HashIs.but {w w' : World} {g g' : Nat} {C : List UInt8} (h : HashIs w g C) (hne : g ≠ g') (hb : w.grownBy w' (some g')) : HashIs w' g C := by
  obtain ⟨a, p, h1, h2⟩ := h
  exact ⟨a, p, h1, h2.hs.but hne hb, h2.lo, h2.hi, h2.eq⟩
theorem HashIs.lt {w : World} {g : Nat} {C : List UInt8} (h : HashIs w g C) : g < w.heap.size := by
  obtain ⟨a, p, h1, h2⟩ := h
  exact h2.hs.lt
/-- The part that waits is full: it is mixed in. -/
theorem full_made (C p : List UInt8) (a : Nat) (hp : p.length = 64) (hC : C.length = 64 * a + 64) (heq : p.take (C.length - 64 * a) = C.drop (64 * a)) : bpart (bparts C a) p C.length false = bparts C (a + 1) := by
  rw [bparts]
  have e1 : cutB C (64 * a) 64 = p := by
    unfold cutB
    rw [← heq, hC, show 64 * a + 64 - 64 * a = 64 by omega, List.take_take, Nat.min_self, List.take_of_length_le (by omega)]
  rw [e1, hC, show 64 * (a + 1) = 64 * a + 64 by omega]
/-- More bytes come in. -/
theorem more_held {w : World} {g a : Nat} {C p q : List UInt8} (lo : 64 * a ≤ C.length) (eq : p.take (C.length - 64 * a) = C.drop (64 * a)) (hp : p.length = 64) (hq : C.length - 64 * a + q.length ≤ 64) (hq0 : 0 < q.length)
    (x : Hs w g (bparts C a) (C ++ q).length (p.take (C.length - 64 * a) ++ q ++ p.drop (C.length - 64 * a + q.length)) ((C ++ q).length - 64 * a)) : HashIs w g (C ++ q) := by
  refine ⟨a, p.take (C.length - 64 * a) ++ q ++ p.drop (C.length - 64 * a + q.length), bahead_of _ a (by simp; omega) (by simp; omega), ?_, by simp; omega, by simp; omega, ?_⟩
  · rw [bparts_append C q a lo]
    exact x
  · have hl : (C ++ q).length - 64 * a = (C.length - 64 * a) + q.length := by simp; omega
    rw [hl, List.take_append_of_le_length (by simp; omega), List.take_of_length_le (by simp; omega), eq, List.drop_append_of_le_length lo]
end Go.Proofs.YthjkjfoelekeeaaDoor
