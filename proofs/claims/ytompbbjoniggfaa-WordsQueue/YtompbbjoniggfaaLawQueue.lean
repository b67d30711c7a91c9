/- WordsQueue: what was pushed first is popped first; no more is in it than there is room for. For every room and every row of steps, without a condition. -/
import Derived.Test.YtompbbjoniggfaaQueC
namespace Go.Proofs.Ytompbbjoniggfaa.wordsQueue
open Go.ChangeShapes Go.WideShapes Go.ChangeAt Go.RowKit Go.Shelf
set_option linter.unusedVariables false
attribute [local go_sem] Oper.semAt_some

theorem row_cell {w : World} {a : Option Addr} {len cap : Nat} {zs : List Int} (h : IsRow .i64 w a len cap zs) (k : Nat) (hk : k < len) :
    ∃ b off z, a = some ⟨b, off, none⟩ ∧ b < w.heap.size ∧ w.cell? ⟨b, off + k, none⟩ = some (.int .i64 z) := by
  rcases h with ⟨rfl, rfl, rfl, rfl⟩ | ⟨x, rfl, hlc, hcm, hz, hcell, hwf⟩
  · omega
  · obtain ⟨b, off, spot⟩ := x
    have hc0 := hcell 0 (by omega)
    have hspot : spot = none := by simpa [Addr.add] using World.cell?_spot hc0
    subst hspot
    have hc := hcell k (by omega)
    rw [addr_add] at hc
    exact ⟨b, off, _, rfl, World.block_lt_of_cell? w _ hc, hc⟩

/-- What the caller had stands, and so does one block of its own. -/
def GO (B ob : Nat) (W W' : World) : Prop := Below B W W' ∧ W'.heap[ob]? = W.heap[ob]?
theorem GO.refl (B ob : Nat) (W : World) : GO B ob W W := ⟨Below.refl _ _, rfl⟩
theorem GO.trans (B ob : Nat) (X Y Z : World) (h : GO B ob X Y) (k : GO B ob Y Z) : GO B ob X Z := ⟨h.1.trans k.1, k.2.trans h.2⟩
theorem cmp_room (room rm : Int) (n : Nat) (h : min (max room 0) 65536 = rm) (h40 : room ≤ 40) : ((n : Int) < rm ↔ (n : Int) < room) := by omega

/-- Between two rounds of the range, when these have come. -/
def RI (w : World) (ob rb kb : Nat) (ao : Option Addr) (co : Nat) (l : List Int) (pre : List Int) (W : World) : Prop :=
  (pre <+: l ∧ W.heap[kb]? = some (.cells #[.int .i64 (pre.length : Int)] 3 (0, 0)) ∧ W.heap[ob]? = some (.cells #[.slice ao l.length co] 36 (0, 0)) ∧ Seg W 3 ao l.length co (l.map iv) ∧ W.heap[rb]? = some (.cells #[.bool false] 4 (0, 0))) ∧ Below w.heap.size w W
theorem kept_cells {W W' : World} {row : Option Nat} {B g : Nat} {cs : Array Value} {t : TypeId} {fr : Nat × Nat} (h : W.heap[g]? = some (.cells cs t fr)) (hg : W.grownBy W' row) (hr : ∀ r, row = some r → B ≤ r ∧ ∃ o : Obj, W.heap[r]? = some o ∧ o.isCells = false) : W'.heap[g]? = some (.cells cs t fr) := by
  rw [hg.block g (lt_of_heap h)]
  · exact h
  · intro e
    obtain ⟨_, o, ho, hc⟩ := hr g e.symm
    rw [h] at ho
    cases ho
    simp [Obj.isCells] at hc
theorem ri_own (w : World) (ob rb kb : Nat) (ao : Option Addr) (co : Nat) (l : List Int) (B : Nat) (hB : w.heap.size ≤ B) : OwnFrom B (RI w ob rb kb ao co l) := by
  intro pre W W' row hs hg hr
  obtain ⟨⟨h1, h2, h3, h4, h5⟩, h6⟩ := hs
  refine ⟨⟨h1, kept_cells h2 hg hr, kept_cells h3 hg hr, ?_, kept_cells h5 hg hr⟩, h6.grown hg h6.size (fun k e => Nat.le_trans hB (hr k e).1)⟩
  refine ⟨h4.1, ?_⟩
  rcases h4.2 with h0 | ⟨g, off, cur, rfl, hg4, r1, r2, r3⟩
  · exact .inl h0
  · exact .inr ⟨g, off, cur, rfl, kept_cells hg4 hg hr, r1, r2, r3⟩

theorem prefix_snoc {pre l : List Int} {x : Int} (h : pre <+: l) (hx : l[pre.length]? = some x) : pre ++ [x] <+: l := by
  obtain ⟨t, rfl⟩ := h
  cases t with
  | nil => simp at hx
  | cons y t =>
    simp at hx
    subst hx
    exact ⟨t, by simp⟩
theorem not_prefix_snoc {pre l : List Int} {x y : Int} (hx : l[pre.length]? = some y) (hne : x ≠ y) : ¬ pre ++ [x] <+: l := by
  rintro ⟨t, rfl⟩
  simp at hx
  exact hne hx
theorem RI.snoc {w W : World} {ob rb kb : Nat} {ao : Option Addr} {co : Nat} {l pre : List Int} {x : Int} (h : RI w ob rb kb ao co l pre W) (hx : l[pre.length]? = some x) (hkw : w.heap.size ≤ kb) (hko : ob ≠ kb) (hkr : rb ≠ kb) (hka : blockOf ao ≠ some kb) :
    KeepsOthers W (W.setCell ⟨kb, 0, none⟩ (.int .i64 ((pre.length : Int) + 1))) ∧ KeepBut kb W (W.setCell ⟨kb, 0, none⟩ (.int .i64 ((pre.length : Int) + 1))) ∧ RI w ob rb kb ao co l (pre ++ [x]) (W.setCell ⟨kb, 0, none⟩ (.int .i64 ((pre.length : Int) + 1))) := by
  obtain ⟨⟨h1, h2, h3, h4, h5⟩, h6⟩ := h
  have hset : ∀ g, g ≠ kb → (W.setCell ⟨kb, 0, none⟩ (.int .i64 ((pre.length : Int) + 1))).heap[g]? = W.heap[g]? := fun g hg => heap_setCell_other W ⟨kb, 0, none⟩ g _ hg
  refine ⟨KeepsOthers.setCell _ _ _, fun g cs t fr hg hc => by rw [hset g hg]; exact hc, ⟨prefix_snoc h1 hx, ?_, by rw [hset _ hko]; exact h3, h4.kept fun g hg => hset g (fun e => hka (by rw [hg, e])), by rw [hset _ hkr]; exact h5⟩, h6.setCell (p := ⟨kb, 0, none⟩) hkw _⟩
  rw [heap_setCell_same W kb 0 _ _ _ h2]
  simp

set_option maxHeartbeats 2000000 in
set_option maxRecDepth 100000 in
theorem walk (a0 : Int) (a1 : Option Addr) (len1 cap1 : Nat) (z1 : List Int) (w : World) (w0 : (Lit.int .i64 a0).wf = true) (w1 : IsRow .i64 w a1 len1 cap1 z1) :
    Calls Try.prog 6 #[.int .i64 a0, .slice a1 len1 cap1] w fun e w' => e = .returned (.bool true) ∧ Below w.heap.size w w' := by
  obtain ⟨room, hroom⟩ : ∃ r : Int, (if 40 < a0 then (40 : Int) else a0) = r := ⟨_, rfl⟩
  have hr40 : room ≤ 40 := by rw [← hroom]; split <;> omega
  refine (callsIn_wide (n := 5)).1 ?_
  refine callsIn_of_wp_marks Try.func6 rfl trivial ?_ rfl
  simp only [Try.ntmps6, List.size_toArray, List.length_cons, List.length_nil, Nat.reduceAdd, Nat.reduceSub, Array.replicate_succ, Array.replicate_zero, List.push_toArray, List.append_toArray, List.nil_append, List.cons_append]
  refine wpIn_wide.2 ?_
  go_wp2_with fail
  refine (shown_any _).mono ?_
  rintro e w3 ⟨rfl, hb3⟩
  rw [World.size_alloc] at hb3
  have hrb : w3.heap[w.heap.size]? = some (.cells #[.bool false] 4 (0, 0)) := by rw [hb3.block _ (by omega)]; exact heap_alloc_new w _
  have hbw3 : Below w.heap.size w w3 := ((Below.refl _ _).alloc (Nat.le_refl _) _).trans (hb3.mono (by omega))
  have hs3 : w.heap.size < w3.heap.size := by have := hb3.size; simp at this; omega
  go_wp2_with fail
  refine (new_any room _ _ rfl).mono ?_
  rintro e w4 ⟨rfl, hb4, hsz4, hq4⟩
  obtain ⟨rm, hrm⟩ : ∃ rm : Int, min (max room 0) 65536 = rm := ⟨_, rfl⟩
  rw [hrm] at hq4
  have Hrm : Hid (min (max room 0) 65536 = rm) := hrm
  clear hrm
  have Hsz4 : Hid (w4.heap.size = w3.heap.size + 1) := hsz4
  clear hsz4
  have hS0 : Hid (St w (w4.alloc (.cells #[.slice none 0 0] 36)) w.heap.size w3.heap.size w4.heap.size none none 0 rm [] []) := by
    have hsz := Hsz4.out
    have hbw4 : Below w.heap.size w w4 := hbw3.trans (hb4.mono hbw3.size)
    have hb5 : Below w4.heap.size w4 (w4.alloc (.cells #[.slice none 0 0] 36)) := (Below.refl _ _).alloc (Nat.le_refl _) _
    refine ⟨hq4.kept (hb5.block _ (by omega)) (by intro j hj; simp [blockOf] at hj), heap_alloc_new w4 _, Seg.nil _ _, ?_, hbw4.trans (hb5.mono hbw4.size), Nat.le_refl _, by omega, by omega, by omega, by omega, by omega, by simp [blockOf], by simp [blockOf], by simp [blockOf], by simp [blockOf], by simp [blockOf], by intro j hj; simp [blockOf] at hj, by intro j hj; simp [blockOf] at hj, by intro j hj; simp [blockOf] at hj⟩
    rw [hb5.block _ (by omega), hb4.block _ (by omega)]
    exact hrb
  clear hb3 hrb hbw3 hb4 hq4
  go_wp2
  generalize w.heap.size = rb at hS0 ⊢
  generalize w3.heap.size = qb at hS0 ⊢
  generalize w4.heap.size = ob at hS0 ⊢
  have hfn : ∀ (W : World), ∀ b : Nat, (binOp .eql 44 (.func (.func 33) #[] #[.pointer (some ⟨b, 0, none⟩)]) .nilFunc).run Try.prog W = .ok (.bool false) W := fun W b => by kernel_rfl
  go_loopw [8] (fun i wr => ∃ (k : Nat) (a ao : Option Addr) (co : Nat) (l : List Int), k ≤ len1 ∧ k ≤ 200 ∧ l.length ≤ k ∧ i = .int .i64 k ∧ Hid (St w wr rb qb ob a ao co rm l l)) (fun i _ => 200 - (intOf i).toNat)
  case atStart => exact ⟨0, none, none, 0, [], Nat.zero_le _, Nat.zero_le _, Nat.le_refl _, rfl, hS0⟩
  case round =>
    obtain ⟨k, a, ao, co, l, hk1, hk2, hlk, rfl, hS⟩ := hrel
    by_cases hlt : k < len1 ∧ k < 200
    · obtain ⟨hl1, hl2⟩ := hlt
      obtain ⟨b, off, z, rfl, hbw, hcz⟩ := row_cell w1 k hl1
      have hcr : wr.cell? ⟨b, off + k, none⟩ = some (.int .i64 z) := by rw [hS.out.bel.cell (p := ⟨b, off + k, none⟩) hbw]; exact hcz
      have i1 : (k : Int) < (len1 : Int) := by omega
      have i2 : (k : Int) < 200 := by omega
      by_cases hz : 0 ≤ z
      · have hcmp := cmp_room room rm l.length Hrm.out hr40
        by_cases hroom2 : (l.length : Int) < room
        · have hrm2 : (l.length : Int) < rm := hcmp.2 hroom2
          clear hcmp
          go_wp2_with fail
          refine (push_yes qb a rm z l wr hS.out.que hrm2 (by omega)).mono ?_
          rintro e w5 ⟨rfl, a5, hq5, hf5⟩
          have hS5 : Hid (St w w5 rb qb ob a5 ao co rm (l ++ [z]) l) := hS.out.fr hq5 hf5
          have hc5 := hS5.out.cells.1
          clear hq5 hf5 hS hcr
          go_wp2
          refine wp_region_sched' (G := GO w.heap.size ob) (by kernel_rfl) (GO.refl _ _) (GO.trans _ _) (by kernel_rfl) [(0, true), (1, true), (2, true), (3, true), (4, true), (5, false), (6, false), (7, false)] rfl (by kernel_rfl) ?_
          intro KK hKK
          have hS6 := hS5.out.grow (Below.refl _ _).drew
          generalize World.drew _ = W1 at hS6 ⊢
          clear hS5 hc5
          have hl1' : ∀ w', GO w.heap.size ob W1 w' → w'.cell? ⟨b, off + k, none⟩ = some (.int .i64 z) := fun w' hg => by rw [(hS6.bel.trans hg.1).cell (p := ⟨b, off + k, none⟩) hbw]; exact hcz
          have hl2' : ∀ w', GO w.heap.size ob W1 w' → w'.cell? ⟨ob, 0, none⟩ = some (.slice ao l.length co) := fun w' hg => cell_of_row w' ob 0 _ _ (0, 0) (by rw [hg.2]; exact hS6.box)
          iterate 5 (refine sched_take rfl (by rfl) (v := ?_) ?_ ?_; rotate_left; (intro w' hw'; have q0 := hl1' w' hw'; have q1 := hl2' w' hw'; go_simp; with_reducible rfl); go_simp)
          obtain ⟨i0, hi, hz0, hz1, hz2⟩ := info_parts Try.infoInt
          obtain ⟨a2, cap2, w2, hap, hs2, hgr, hfr, hsz2⟩ := append_seg (P := Try.prog) 36 36 3 i0 (.int .i64 0) 8 Try.underlying36 hi hz0 hz1 hz2 rfl W1 ao l.length co (l.map iv) hS6.seg (.int .i64 z) rfl (by unfold maxLen; omega) (by omega)
          have hS7 : Hid (St w (w2.setCell ⟨ob, 0, none⟩ (.slice a2 (l.length + 1) cap2)) rb qb ob a5 a2 cap2 rm (l ++ [z]) (l ++ [z])) := hS6.append hgr hs2 hfr
          have hob := lt_of_heap hS6.box
          have hG1 : GO w.heap.size ob W1 (W1.alloc (.cells #[.int .i64 z] 3)) := ⟨(Below.refl _ _).alloc hS6.bel.size _, Below.heap_alloc W1 _ ob hob⟩
          have hG2 : GO w.heap.size ob (W1.alloc (.cells #[.int .i64 z] 3)) w2 := ⟨below_append hgr hsz2 hS6.bel.size hS6.ow _, by rw [hgr.block ob hob (Ne.symm hS6.o1), Below.heap_alloc W1 _ ob hob]⟩
          have hcb : w2.cell? ⟨ob, 0, none⟩ = some (.slice ao l.length co) := cell_of_row w2 ob 0 _ _ (0, 0) (by rw [hgr.block ob hob (Ne.symm hS6.o1)]; exact hS6.box)
          have hfb : w2.frozen? ⟨ob, 0, none⟩ = false := frozen_of_row w2 ob 0 _ _ (by rw [hgr.block ob hob (Ne.symm hS6.o1)]; exact hS6.box)
          refine sched_val rfl (by rfl) (v := .slice (some ⟨W1.heap.size, 0, none⟩) 1 1) (w' := W1.alloc (.cells #[.int .i64 z] 3)) (by go_simp) hG1 ?_
          have HAP : Hid (_) := hap
          clear hap hl1' hl2' hs2 hgr hfr hG1 hS6
          go_simp
          refine sched_append rfl (by rfl) rfl (by rfl) (by rfl) HAP.out hG2 ?_
          clear hG2 HAP
          go_simp
          refine sched_store rfl (by rfl) (w' := w2.setCell ⟨ob, 0, none⟩ (.slice a2 (l.length + 1) cap2)) (by go_simp) (by kernel_rfl) ?_
          clear hcb hfb hi hz0 hz1 hz2
          go_simp
          refine sched_done hKK ?_
          clear hKK KK
          generalize World.setCell _ _ _ = W2 at hS7 ⊢
          go_wp2
          refine wp_region_sched' (G := Grows) (by kernel_rfl) Grows.refl Grows.trans (by kernel_rfl) [(0, true), (2, true), (3, true), (1, false), (4, true), (5, true), (6, true), (7, false), (8, true), (9, true)] rfl (by kernel_rfl) ?_
          intro KK hKK
          have hS1 := hS7.out.grow (Below.refl _ _).drew
          generalize World.drew _ = W1 at hS1 ⊢
          clear hS7
          iterate 3 (refine sched_take rfl (by rfl) (v := ?_) ?_ ?_; rotate_left; (intro w' hw'; have q0 := ((hS1.grow hw').cells).1; go_simp; with_reducible rfl); go_simp)
          refine sched_call (f := 27) (args := #[.pointer (some ⟨qb, 0, none⟩)]) rfl (by rfl) (by go_simp) ?_
          refine (len_any qb _ rm (l ++ [z]) W1 hS1.que).mono ?_
          rintro e w' ⟨rfl, rfl⟩
          refine ⟨_, rfl, Grows.refl _, ?_⟩
          go_simp
          iterate 3 (refine sched_take rfl (by rfl) (v := ?_) ?_ ?_; rotate_left; (intro w' hw'; go_simp; with_reducible rfl); go_simp)
          refine sched_call (f := 28) (args := #[.pointer (some ⟨qb, 0, none⟩)]) rfl (by rfl) (by go_simp) ?_
          refine (all_any qb w').mono ?_
          rintro e w'' ⟨rfl, hw''⟩
          have hG2 : Grows w' w'' := by rw [hw'']; exact (Below.refl _ _).alloc (Nat.le_refl _) _
          refine ⟨_, rfl, hG2, ?_⟩
          have hS2 : Hid (St w w'' rb qb ob a5 a2 cap2 rm (l ++ [z]) (l ++ [z])) := hS1.grow hG2
          clear hw'' hG2 hS1
          go_simp
          iterate 2 (refine sched_take rfl (by rfl) (v := ?_) ?_ ?_; rotate_left; (intro w' hw'; have q0 := hfn w'; go_simp; with_reducible rfl); go_simp)
          refine sched_done hKK ?_
          go_wp2
          exact ⟨⟨k + 1, a5, a2, cap2, (l ++ [z]), by omega, by omega, by simp; omega, by go_num, hS2⟩, by simp [intOf]; omega⟩
        · have hrm2 : ¬ (l.length : Int) < rm := fun h => hroom2 (hcmp.1 h)
          clear hcmp
          go_wp2_with fail
          refine (push_no qb a rm z l wr hS.out.que (by omega)).mono ?_
          rintro e w5 ⟨rfl, hq5, hf5⟩
          have hS5 : Hid (St w w5 rb qb ob a ao co rm l l) := hS.out.fr hq5 hf5
          have hc5 := hS5.out.cells.1
          clear hq5 hf5 hS hcr
          go_wp2
          refine wp_region_sched' (G := Grows) (by kernel_rfl) Grows.refl Grows.trans (by kernel_rfl) [(0, true), (2, true), (3, true), (1, false), (4, true), (5, true), (6, true), (7, false), (8, true), (9, true)] rfl (by kernel_rfl) ?_
          intro KK hKK
          have hS1 := hS5.out.grow (Below.refl _ _).drew
          generalize World.drew _ = W1 at hS1 ⊢
          clear hS5
          iterate 3 (refine sched_take rfl (by rfl) (v := ?_) ?_ ?_; rotate_left; (intro w' hw'; have q0 := ((hS1.grow hw').cells).1; go_simp; with_reducible rfl); go_simp)
          refine sched_call (f := 27) (args := #[.pointer (some ⟨qb, 0, none⟩)]) rfl (by rfl) (by go_simp) ?_
          refine (len_any qb _ rm l W1 hS1.que).mono ?_
          rintro e w' ⟨rfl, rfl⟩
          refine ⟨_, rfl, Grows.refl _, ?_⟩
          go_simp
          iterate 3 (refine sched_take rfl (by rfl) (v := ?_) ?_ ?_; rotate_left; (intro w' hw'; go_simp; with_reducible rfl); go_simp)
          refine sched_call (f := 28) (args := #[.pointer (some ⟨qb, 0, none⟩)]) rfl (by rfl) (by go_simp) ?_
          refine (all_any qb w').mono ?_
          rintro e w'' ⟨rfl, hw''⟩
          have hG2 : Grows w' w'' := by rw [hw'']; exact (Below.refl _ _).alloc (Nat.le_refl _) _
          refine ⟨_, rfl, hG2, ?_⟩
          have hS2 : Hid (St w w'' rb qb ob a ao co rm l l) := hS1.grow hG2
          clear hw'' hG2 hS1
          go_simp
          iterate 2 (refine sched_take rfl (by rfl) (v := ?_) ?_ ?_; rotate_left; (intro w' hw'; have q0 := hfn w'; go_simp; with_reducible rfl); go_simp)
          refine sched_done hKK ?_
          go_wp2
          exact ⟨⟨k + 1, a, ao, co, l, by omega, by omega, by omega, by go_num, hS2⟩, by simp [intOf]; omega⟩
      · cases l with
        | nil =>
          have hc5 := hS.out.cells.1
          go_wp2_with fail
          refine (pop_no qb a rm wr hS.out.que).mono ?_
          rintro e w5 ⟨rfl, rfl⟩
          clear hcr
          go_wp2
          refine wp_region_sched' (G := Grows) (by kernel_rfl) Grows.refl Grows.trans (by kernel_rfl) [(0, true), (2, true), (3, true), (1, false), (4, true), (5, true), (6, true), (7, false), (8, true), (9, true)] rfl (by kernel_rfl) ?_
          intro KK hKK
          have hS1 := hS.out.grow (Below.refl _ _).drew
          generalize World.drew _ = W1 at hS1 ⊢
          clear hS
          iterate 3 (refine sched_take rfl (by rfl) (v := ?_) ?_ ?_; rotate_left; (intro w' hw'; have q0 := ((hS1.grow hw').cells).1; go_simp; with_reducible rfl); go_simp)
          refine sched_call (f := 27) (args := #[.pointer (some ⟨qb, 0, none⟩)]) rfl (by rfl) (by go_simp) ?_
          refine (len_any qb _ rm [] W1 hS1.que).mono ?_
          rintro e w' ⟨rfl, rfl⟩
          refine ⟨_, rfl, Grows.refl _, ?_⟩
          go_simp
          iterate 3 (refine sched_take rfl (by rfl) (v := ?_) ?_ ?_; rotate_left; (intro w' hw'; go_simp; with_reducible rfl); go_simp)
          refine sched_call (f := 28) (args := #[.pointer (some ⟨qb, 0, none⟩)]) rfl (by rfl) (by go_simp) ?_
          refine (all_any qb w').mono ?_
          rintro e w'' ⟨rfl, hw''⟩
          have hG2 : Grows w' w'' := by rw [hw'']; exact (Below.refl _ _).alloc (Nat.le_refl _) _
          refine ⟨_, rfl, hG2, ?_⟩
          have hS2 : Hid (St w w'' rb qb ob a ao co rm [] []) := hS1.grow hG2
          clear hw'' hG2 hS1
          go_simp
          iterate 2 (refine sched_take rfl (by rfl) (v := ?_) ?_ ?_; rotate_left; (intro w' hw'; have q0 := hfn w'; go_simp; with_reducible rfl); go_simp)
          refine sched_done hKK ?_
          go_wp2
          exact ⟨⟨k + 1, a, ao, co, [], by omega, by omega, by simp, by go_num, hS2⟩, by simp [intOf]; omega⟩
        | cons x l =>
          obtain ⟨g, og, rfl, hcg, _⟩ := hS.out.seg.cell 0 (by simp)
          go_wp2_with fail
          refine (pop_yes qb a rm x l wr hS.out.que).mono ?_
          rintro e w5 ⟨rfl, a5, hq5, hf5⟩
          have hS5 : Hid (St w w5 rb qb ob a5 (some ⟨g, og, none⟩) co rm l (x :: l)) := hS.out.fr hq5 hf5
          clear hq5 hf5 hS hcr hcg
          have hc5 : w5.cell? ⟨ob, 0, none⟩ = some (.slice (some ⟨g, og, none⟩) (l.length + 1) co) := hS5.out.cells.1
          have hf5 := hS5.out.cells.2.1
          have hx5 : w5.cell? ⟨g, og, none⟩ = some (.int .i64 x) := by
            obtain ⟨g', og', e, hcg, _⟩ := hS5.out.seg.cell 0 (by simp)
            cases e
            rw [Nat.add_zero] at hcg
            rw [hcg]; rfl
          have hco : l.length + 1 ≤ co := by
            rcases hS5.out.seg.2 with ⟨e, _⟩ | ⟨_, _, _, _, _, _, h, _⟩
            · cases e
            · exact h
          have hpos : (0 : Int) < (l.length : Int) + 1 := by omega
          have hS6 : Hid (St w (w5.setCell ⟨ob, 0, none⟩ (.slice (some (restAddr g og co)) l.length (co - 1))) rb qb ob a5 (some (restAddr g og co)) (co - 1) rm l l) := hS5.out.rest
          clear hS5
          simp only [List.length_cons] at hlk
          by_cases hc1 : co = 1
          · have e1 : restAddr g og co = ⟨g, og, none⟩ := by simp [restAddr, hc1]
            rw [e1, show co - 1 = 0 by omega] at hS6
            clear e1
            obtain rfl : l = [] := List.eq_nil_of_length_eq_zero (by omega)
            subst hc1
            have hS7 : Hid (St w (w5.setCell ⟨ob, 0, none⟩ (.slice (some ⟨g, og, none⟩) 0 0)) rb qb ob a5 (some ⟨g, og, none⟩) 0 rm [] []) := hS6
            clear hS6
            go_wp2
            generalize World.setCell _ _ _ = W2 at hS7 ⊢
            clear hc5 hf5 hx5
            refine wp_region_sched' (G := Grows) (by kernel_rfl) Grows.refl Grows.trans (by kernel_rfl) [(0, true), (2, true), (3, true), (1, false), (4, true), (5, true), (6, true), (7, false), (8, true), (9, true)] rfl (by kernel_rfl) ?_
            intro KK hKK
            have hS1 := hS7.out.grow (Below.refl _ _).drew
            generalize World.drew _ = W1 at hS1 ⊢
            clear hS7
            iterate 3 (refine sched_take rfl (by rfl) (v := ?_) ?_ ?_; rotate_left; (intro w' hw'; have q0 := ((hS1.grow hw').cells).1; go_simp; with_reducible rfl); go_simp)
            refine sched_call (f := 27) (args := #[.pointer (some ⟨qb, 0, none⟩)]) rfl (by rfl) (by go_simp) ?_
            refine (len_any qb _ rm [] W1 hS1.que).mono ?_
            rintro e w' ⟨rfl, rfl⟩
            refine ⟨_, rfl, Grows.refl _, ?_⟩
            go_simp
            iterate 3 (refine sched_take rfl (by rfl) (v := ?_) ?_ ?_; rotate_left; (intro w' hw'; go_simp; with_reducible rfl); go_simp)
            refine sched_call (f := 28) (args := #[.pointer (some ⟨qb, 0, none⟩)]) rfl (by rfl) (by go_simp) ?_
            refine (all_any qb w').mono ?_
            rintro e w'' ⟨rfl, hw''⟩
            have hG2 : Grows w' w'' := by rw [hw'']; exact (Below.refl _ _).alloc (Nat.le_refl _) _
            refine ⟨_, rfl, hG2, ?_⟩
            have hS2 : Hid (St w w'' rb qb ob a5 (some ⟨g, og, none⟩) 0 rm [] []) := hS1.grow hG2
            clear hw'' hG2 hS1
            go_simp
            iterate 2 (refine sched_take rfl (by rfl) (v := ?_) ?_ ?_; rotate_left; (intro w' hw'; have q0 := hfn w'; go_simp; with_reducible rfl); go_simp)
            refine sched_done hKK ?_
            go_wp2
            exact ⟨⟨k + 1, a5, (some ⟨g, og, none⟩), 0, [], by omega, by omega, by simp, by go_num, hS2⟩, by simp [intOf]; omega⟩
          · have e1 : restAddr g og co = ⟨g, og + 1, none⟩ := by simp [restAddr, hc1]
            rw [e1] at hS6
            clear e1
            go_wp2
            generalize World.setCell _ _ _ = W2 at hS6 ⊢
            clear hc5 hf5 hx5
            refine wp_region_sched' (G := Grows) (by kernel_rfl) Grows.refl Grows.trans (by kernel_rfl) [(0, true), (2, true), (3, true), (1, false), (4, true), (5, true), (6, true), (7, false), (8, true), (9, true)] rfl (by kernel_rfl) ?_
            intro KK hKK
            have hS1 := hS6.out.grow (Below.refl _ _).drew
            generalize World.drew _ = W1 at hS1 ⊢
            clear hS6
            iterate 3 (refine sched_take rfl (by rfl) (v := ?_) ?_ ?_; rotate_left; (intro w' hw'; have q0 := ((hS1.grow hw').cells).1; go_simp; with_reducible rfl); go_simp)
            refine sched_call (f := 27) (args := #[.pointer (some ⟨qb, 0, none⟩)]) rfl (by rfl) (by go_simp) ?_
            refine (len_any qb _ rm l W1 hS1.que).mono ?_
            rintro e w' ⟨rfl, rfl⟩
            refine ⟨_, rfl, Grows.refl _, ?_⟩
            go_simp
            iterate 3 (refine sched_take rfl (by rfl) (v := ?_) ?_ ?_; rotate_left; (intro w' hw'; go_simp; with_reducible rfl); go_simp)
            refine sched_call (f := 28) (args := #[.pointer (some ⟨qb, 0, none⟩)]) rfl (by rfl) (by go_simp) ?_
            refine (all_any qb w').mono ?_
            rintro e w'' ⟨rfl, hw''⟩
            have hG2 : Grows w' w'' := by rw [hw'']; exact (Below.refl _ _).alloc (Nat.le_refl _) _
            refine ⟨_, rfl, hG2, ?_⟩
            have hS2 : Hid (St w w'' rb qb ob a5 (some ⟨g, og + 1, none⟩) (co - 1) rm l l) := hS1.grow hG2
            clear hw'' hG2 hS1
            go_simp
            iterate 2 (refine sched_take rfl (by rfl) (v := ?_) ?_ ?_; rotate_left; (intro w' hw'; have q0 := hfn w'; go_simp; with_reducible rfl); go_simp)
            refine sched_done hKK ?_
            go_wp2
            exact ⟨⟨k + 1, a5, (some ⟨g, og + 1, none⟩), (co - 1), l, by omega, by omega, by omega, by go_num, hS2⟩, by simp [intOf]; omega⟩
    · have hS2 : Hid (St w ((wr.alloc (.cells #[.int .i64 0] 3)).alloc (.cells #[.pointer (some ⟨qb, 0, none⟩)] 37)) rb qb ob a ao co rm l l) := hS.out.grow (((Below.refl _ _).alloc (Nat.le_refl _) _).alloc (by simp) _)
      have hkb : ((wr.alloc (.cells #[.int .i64 0] 3)).alloc (.cells #[.pointer (some ⟨qb, 0, none⟩)] 37)).heap[wr.heap.size]? = some (.cells #[.int .i64 0] 3 (0, 0)) := by
        rw [Below.heap_alloc _ _ _ (by simp)]; exact heap_alloc_new wr _
      have hbn : ((wr.alloc (.cells #[.int .i64 0] 3)).alloc (.cells #[.pointer (some ⟨qb, 0, none⟩)] 37)).heap[wr.heap.size + 1]? = some (.cells #[.pointer (some ⟨qb, 0, none⟩)] 37 (0, 0)) := by
        have := heap_alloc_new (wr.alloc (.cells #[.int .i64 0] 3)) (.cells #[.pointer (some ⟨qb, 0, none⟩)] 37)
        simpa using this
      have hkw : w.heap.size ≤ wr.heap.size := hS.out.bel.size
      have hko : ob ≠ wr.heap.size := by have := lt_of_heap hS.out.box; omega
      have hkr : rb ≠ wr.heap.size := by have := lt_of_heap hS.out.res; omega
      have hka : blockOf ao ≠ some wr.heap.size := fun e => by have := hS.out.seg.lt _ e; omega
      have hl200 : l.length ≤ 1000000 := by omega
      clear hS
      by_cases hkl : (k : Int) < (len1 : Int)
      all_goals
        go_wp2_with fail
        refine (all_any qb _).mono ?_
        rintro e w5 ⟨rfl, hw5⟩
        rw [← hw5] at hS2 hkb hbn
        clear hw5
        go_wp2
        generalize wr.heap.size = kb at hS2 hkb hbn hkw hko hkr hka ⊢
        generalize hA : (Act.mk _ _) = A
        refine wpIn_wide.1 (wpIn_rangeFunc_ownF (F := Fence.wide) (n := 5) (α := Int) rfl (by omega) (gf := 33) (lb := #[.pointer (some ⟨kb + 1, 0, none⟩)]) (by rw [← hA]; rfl) trivial (enters_of Try.func33 (by kernel_rfl) rfl)
          (all_stops 4 (by omega) (kb + 1) qb kb a rm l w5 (cell_of_row w5 (kb + 1) 0 _ _ (0, 0) hbn) hS2.out.que hl200 (lt_of_heap hkb)) keepBut_t keepBut_b (Below.refl _ _) (fun _ => rfl)
          (RI w ob rb kb ao co l) (fun c pre W => c = .ret ∧ ¬ pre <+: l) (ri_own w ob rb kb ao co l _ (by have := hS2.out.bel.size; omega)) (fun c s X Y row hs hg hr => hs) ?h0
          (fun x => { tmps := (A.tmps.setIfInBounds 99 (.int .i64 x)).setIfInBounds 13 (.int .i64 x), defers := [] }) ?assign ?body ?done ?stop)
        case h0 => exact ⟨⟨List.nil_prefix, hkb, hS2.out.box, hS2.out.seg, hS2.out.res⟩, hS2.out.bel⟩
        case assign =>
          intro lp x W K hK
          subst hA
          gi_wp2
          exact hK
        case body =>
          subst hA
          intro lp pre x W hRI hlen
          obtain ⟨⟨hpre, hk, ho, hs, hr⟩, hB⟩ := id hRI
          have ck := cell_of_row W kb 0 _ _ (0, 0) hk
          have fk := frozen_of_row W kb 0 _ _ hk
          have co := cell_of_row W ob 0 _ _ (0, 0) ho
          have cr := cell_of_row W rb 0 _ _ (0, 0) hr
          have fr := frozen_of_row W rb 0 _ _ hr
          have hsn := hRI.snoc (x := x)
          obtain ⟨y, hy⟩ : ∃ y, l[pre.length] = y := ⟨_, rfl⟩
          have hly : l[pre.length]? = some y := by rw [List.getElem?_eq_getElem hlen, hy]
          obtain ⟨g, off, rfl, hc, _⟩ := hs.cell pre.length hlen
          have hc' : W.cell? ⟨g, off + pre.length, none⟩ = some (.int .i64 y) := by
            rw [hc, List.getElem?_map, hly]
            rfl
          clear hc hy hpre hk ho hr hs
          by_cases hxy : x = y
          · subst hxy
            gi_wp2
            all_goals exact hsn hly hkw hko hkr hka
          · gi_wp2
            all_goals first | exact ⟨KeepsOthers.setCell _ _ _, rfl, not_prefix_snoc hly hxy⟩ | (rename_i hq; exact absurd (by simpa [hlen] using hq) hxy)
        case done =>
          subst hA
          rintro D xs W hD rfl ⟨⟨_, hk, ho, hs, hr⟩, hB⟩ hK
          have ck := cell_of_row W kb 0 _ _ (0, 0) hk
          have co := cell_of_row W ob 0 _ _ (0, 0) ho
          have cr := cell_of_row W rb 0 _ _ (0, 0) hr
          have fr := frozen_of_row W rb 0 _ _ hr
          have HS : Hid (Seg W 3 ao xs.length _ (xs.map iv)) := hs
          have HRB : Hid (w.heap.size ≤ rb) := hS2.out.b1
          have HD : Hid (w.heap.size ≤ D) := by have := hS2.out.bel.size; exact Nat.le_trans this hD
          clear hs hk ho hr hS2
          go_wp2
          have hK' := (KeepsOthers.setCell W ⟨rb, 0, none⟩ (.bool true)).same D _ hK rfl
          refine ⟨by simp, .inl ⟨_, _, rfl, run_takeDeferred hK', ?_⟩⟩
          have hc5 := cell_kept (World.cell?_setCell_same' W ⟨rb, 0, none⟩ (.bool true) (by rw [cr]; rfl)) (grownBy_putObj' _ D (.deferred none)) (fun r e => by cases e; exact ⟨_, hK', rfl⟩)
          refine ⟨.bool true, ?_, rfl, (hB.setCell (p := ⟨rb, 0, none⟩) HRB.out _).trans (belowK_b (w := w) (Nat.le_refl _) _ D _ _ HD.out hK' rfl rfl)⟩
          simp [results, Try.f6, go_sem, hc5]
        case stop =>
          rintro D c pre W _ hp ⟨rfl, hn⟩ _
          exact absurd hp hn
end Go.Proofs.Ytompbbjoniggfaa.wordsQueue
