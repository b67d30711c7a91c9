/- The walk over the program's turn (blake). -/
import Derived.Test.YtdancpcnjklifaaDoorBlkA
namespace Go.Proofs.YtdancpcnjklifaaDoor
set_option linter.unusedVariables false
set_option maxRecDepth 100000
open Go.RowKit
/-- A row of the table, as values. -/
def rowV (i : Nat) : List Value := (List.range 16).map fun k => Value.int .u8 ((sig i k : Nat) : Int)
theorem rowV_length (i : Nat) : (rowV i).length = 16 := by simp [rowV]
theorem rowV_get (i k : Nat) (hk : k < 16) : (rowV i).toArray[k]? = some (.int .u8 ((sig i k : Nat) : Int)) := by simp [rowV, hk]
/-- The words, as they come from round to round; the part's words, and the row. -/
structure TurB (w : World) (g i : Nat) (m l : List (BitVec 32)) (wr : World) : Prop where
  now : Wd wr g 111 l
  m : Wd wr w.heap.size 111 m
  r : wr.heap[w.heap.size + 1]? = some (.cells (rowV i).toArray 69 (0, 0))
  lt : g < w.heap.size
  grown : w.grownBy wr (some g)
theorem TurB.next {w wr w' : World} {g i : Nat} {m l l' : List (BitVec 32)} (t : TurB w g i m l wr) (hs : Wd w' g 111 l') (hg : wr.grownBy w' (some g)) : TurB w g i m l' w' := by
  have hlt := t.lt
  refine ⟨hs, t.m.but (by omega) hg, ?_, t.lt, t.grown.trans hg⟩
  rw [hg.block _ (Array.getElem?_eq_some_iff.1 t.r).1 (fun e => by cases e; omega)]
  exact t.r
theorem TurB.drew {w wr : World} {g i : Nat} {m l : List (BitVec 32)} (t : TurB w g i m l wr) : TurB w g i m l wr.drew := t.next t.now (grownBy_drew wr _)
theorem TurB.new (w : World) (g i : Nat) (m l : List (BitVec 32)) (h : Wd w g 111 l) :
    TurB w g i m l ((w.alloc (.cells (m.map uv).toArray 111)).alloc (.cells (rowV i).toArray 69)) := by
  have hlt := h.lt
  refine ⟨?_, ?_, ?_, hlt, ?_⟩
  · unfold Wd
    rw [Below.heap_alloc _ _ _ (by simp; omega), Below.heap_alloc _ _ _ hlt]; exact h
  · unfold Wd
    rw [Below.heap_alloc _ _ _ (by simp)]; exact heap_alloc_new w _
  · have := heap_alloc_new (w.alloc (.cells (m.map uv).toArray 111)) (.cells (rowV i).toArray 69)
    rwa [World.size_alloc] at this
  · have h2 : Below w.heap.size w ((w.alloc (.cells (m.map uv).toArray 111)).alloc (.cells (rowV i).toArray 69)) := ((Below.refl _ _).alloc (Nat.le_refl _) _).alloc (by simp) _
    exact But.below g h2
theorem TurB.mw {w wr w' : World} {g i : Nat} {m l : List (BitVec 32)} (t : TurB w g i m l wr) (hb : But g wr w') (k : Nat) (hk : k < m.length) : w'.cell? ⟨w.heap.size, k, none⟩ = some (.int .u32 ((at32 m k).toNat : Int)) := by
  have hlt := t.lt
  exact ((t.m.but (by omega) hb).word k hk).1
theorem TurB.rw_ {w wr w' : World} {g i : Nat} {m l : List (BitVec 32)} (t : TurB w g i m l wr) (hb : But g wr w') (k : Nat) (hk : k < 16) : w'.cell? ⟨w.heap.size + 1, k, none⟩ = some (.int .u8 ((sig i k : Nat) : Int)) := by
  have hlt := t.lt
  have hr : w'.heap[w.heap.size + 1]? = some (.cells (rowV i).toArray 69 (0, 0)) := by
    rw [World.grownBy.block hb _ (Array.getElem?_eq_some_iff.1 t.r).1 (fun e => by cases e; omega)]
    exact t.r
  rw [cell_of_row w' _ k _ _ (0, 0) hr]
  exact rowV_get i k hk
theorem slantB (q c d : Nat) (hq : q < 4) (hc : c < 4) (hd : d ≤ 12) : IntKind.i64.wrap ((d : Int) + (IntKind.i64.wrap ((q : Int) + (c : Int))).tmod 4) = ((d + (q + c) % 4 : Nat) : Int) := by
  have h1 : IntKind.i64.wrap ((q : Int) + (c : Int)) = ((q + c : Nat) : Int) := by rw [IntKind.wrap_i64]; omega
  have h2 : ((q + c : Nat) : Int).tmod 4 = (((q + c) % 4 : Nat) : Int) := by rw [Int.tmod_eq_emod_of_nonneg (by omega)]; omega
  have h3 : (q + c) % 4 < 4 := by omega
  rw [h1, h2]
  generalize (q + c) % 4 = m at h3 ⊢
  rw [IntKind.wrap_i64]
  omega

set_option maxHeartbeats 4000000 in
set_option maxRecDepth 100000 in
theorem bturn_any (g i : Nat) (m l : List (BitVec 32)) (w : World) (hl : l.length = 16) (hm : m.length = 16) (hi : i < 10) (hS : Wd w g 111 l) :
    Calls Tryd.prog 73 #[.pointer (some ⟨g, 0, none⟩), .agg (m.map uv).toArray, .agg (rowV i).toArray] w fun e w' => (∃ v, e = .returned v) ∧ Wd w' g 111 (bslants i m 4 (bcols i m 4 l)) ∧ w.grownBy w' (some g) := by
  have HT0 : Hid (TurB w g i m l ((w.alloc (.cells (m.map uv).toArray 111)).alloc (.cells (rowV i).toArray 69))) := TurB.new w g i m l hS
  clear hS
  have hcl : ∀ k, (bcols i m k l).length = 16 := fun k => by rw [bcols_length, hl]
  have hsl : ∀ k, (bslants i m k (bcols i m 4 l)).length = 16 := fun k => by rw [bslants_length, hcl]
  go_enter Tryd.func73, Tryd.ntmps73
  go_wp2
  refine from_world (P := Code.wp Tryd.prog _ _ _) (R := fun W => Hid (TurB w g i m l W)) _ HT0 ?_
  intro W0 HT1
  clear HT0
  obtain ⟨gm, hgm⟩ : ∃ gm, w.heap.size = gm := ⟨_, rfl⟩
  obtain ⟨gr, hgr⟩ : ∃ gr, w.heap.size + 1 = gr := ⟨_, rfl⟩
  have HMW : Hid (∀ (l : List (BitVec 32)) (wr w' : World), TurB w g i m l wr → But g wr w' → ∀ k, k < 16 → w'.cell? ⟨gm, k, none⟩ = some (.int .u32 ((at32 m k).toNat : Int))) := fun l wr w' t hb k hk => by rw [← hgm]; exact t.mw hb k (by omega)
  have HRW : Hid (∀ (l : List (BitVec 32)) (wr w' : World), TurB w g i m l wr → But g wr w' → ∀ k, k < 16 → w'.cell? ⟨gr, k, none⟩ = some (.int .u8 ((sig i k : Nat) : Int))) := fun l wr w' t hb k hk => by rw [← hgr]; exact t.rw_ hb k hk
  rw [hgr]
  rw [hgm]
  clear hgr hgm
  go_loopw [8] (fun i' wr => ∃ j : Nat, j ≤ 4 ∧ i' = .int .i64 j ∧ Hid (TurB w g i m (bcols i m j l) wr)) (fun i _ => 4 - (intOf i).toNat)
  case atStart => exact ⟨0, by omega, rfl, HT1⟩
  case round =>
    clear HT1
    obtain ⟨j, hj, rfl, hD⟩ := hrel
    by_cases hjl : j < 4
    · obtain ⟨p1, hp1⟩ : ∃ p, 4 + j = p := ⟨_, rfl⟩
      obtain ⟨p2, hp2⟩ : ∃ p, 8 + j = p := ⟨_, rfl⟩
      obtain ⟨p3, hp3⟩ : ∃ p, 12 + j = p := ⟨_, rfl⟩
      obtain ⟨q1, hq1⟩ : ∃ p, 2 * j = p := ⟨_, rfl⟩
      obtain ⟨q2, hq2⟩ : ∃ p, q1 + 1 = p := ⟨_, rfl⟩
      have e1 : IntKind.i64.wrap ((4 : Int) + (j : Int)) = (p1 : Int) := by rw [IntKind.wrap_i64]; omega
      have e2 : IntKind.i64.wrap ((8 : Int) + (j : Int)) = (p2 : Int) := by rw [IntKind.wrap_i64]; omega
      have e3 : IntKind.i64.wrap ((12 : Int) + (j : Int)) = (p3 : Int) := by rw [IntKind.wrap_i64]; omega
      have e4 : IntKind.i64.wrap ((2 : Int) * (j : Int)) = (q1 : Int) := by rw [IntKind.wrap_i64]; omega
      have e5 : IntKind.i64.wrap ((q1 : Int) + 1) = (q2 : Int) := by rw [IntKind.wrap_i64]; omega
      have hlj : (j : Int) < 4 := by omega
      have hj16 : (j : Int) < 16 := by omega
      have h116 : (p1 : Int) < 16 := by omega
      have h216 : (p2 : Int) < 16 := by omega
      have h316 : (p3 : Int) < 16 := by omega
      have k116 : (q1 : Int) < 16 := by omega
      have k216 : (q2 : Int) < 16 := by omega
      obtain ⟨s1, hs1⟩ : ∃ s, sig i q1 = s := ⟨_, rfl⟩
      obtain ⟨s2, hs2⟩ : ∃ s, sig i q2 = s := ⟨_, rfl⟩
      have hs1l : s1 < 16 := by rw [← hs1]; exact sig_lt i q1 hi (by omega)
      have hs2l : s2 < 16 := by rw [← hs2]; exact sig_lt i q2 hi (by omega)
      have is1 : (s1 : Int) < 16 := by omega
      have is2 : (s2 : Int) < 16 := by omega
      obtain ⟨x, hx⟩ : ∃ x, at32 m s1 = x := ⟨_, rfl⟩
      obtain ⟨y, hy⟩ : ∃ y, at32 m s2 = y := ⟨_, rfl⟩
      have HDd : Hid (TurB w g i m (bcols i m j l) wr.drew) := hD.out.drew
      have hcj := hcl j
      clear hD
      go_wp2
      refine wp_region_sched' (G := But g) (by kernel_rfl) (But.refl g) (But.trans g) (by kernel_rfl) [(0, true), (1, true), (2, true), (3, true), (4, true), (5, true), (6, true), (7, true), (8, true), (9, true), (10, true), (11, true), (12, true), (13, true), (14, true), (15, true), (16, true), (17, true), (18, true), (19, true), (20, true), (21, true), (22, true), (23, true), (24, true), (25, true), (26, true), (27, true), (28, true), (29, true), (30, true), (31, true), (32, false)] rfl (by kernel_rfl) ?_
      intro KK hKK
      generalize wr.drew = W at HDd
      have hr1 : ∀ w', But g W w' → w'.cell? ⟨gr, q1, none⟩ = some (.int .u8 ((s1 : Nat) : Int)) := fun w' hw' => by rw [← hs1]; exact HRW.out _ _ _ HDd.out hw' q1 (by omega)
      have hr2 : ∀ w', But g W w' → w'.cell? ⟨gr, q2, none⟩ = some (.int .u8 ((s2 : Nat) : Int)) := fun w' hw' => by rw [← hs2]; exact HRW.out _ _ _ HDd.out hw' q2 (by omega)
      have hm1 : ∀ w', But g W w' → w'.cell? ⟨gm, s1, none⟩ = some (.int .u32 (x.toNat : Int)) := fun w' hw' => by rw [← hx]; exact HMW.out _ _ _ HDd.out hw' s1 (by omega)
      have hm2 : ∀ w', But g W w' → w'.cell? ⟨gm, s2, none⟩ = some (.int .u32 (y.toNat : Int)) := fun w' hw' => by rw [← hy]; exact HMW.out _ _ _ HDd.out hw' s2 (by omega)
      iterate 32 (refine sched_take rfl (by rfl) (v := ?_) ?_ ?_; rotate_left; (intro w' hw'; have o1 := hr1 w' hw'; have o2 := hr2 w' hw'; have o3 := hm1 w' hw'; have o4 := hm2 w' hw'; clear hw'; go_simp; with_reducible rfl); go_simp)
      refine sched_call (f := 87) (args := #[.pointer (some ⟨g, j, none⟩), .pointer (some ⟨g, p1, none⟩), .pointer (some ⟨g, p2, none⟩), .pointer (some ⟨g, p3, none⟩), .int .u32 (x.toNat : Int), .int .u32 (y.toNat : Int)]) rfl (by rfl) (by go_simp) ?_
      refine (bmix_any g _ _ j p1 p2 p3 x y _ HDd.out.now (by omega) (by omega) (by omega) (by omega)).mono ?_
      rintro e w8 ⟨⟨v, rfl⟩, hs8, hg8⟩
      refine ⟨_, rfl, hg8, ?_⟩
      have HD8 : Hid (TurB w g i m (bcols i m (j + 1) l) w8) := by
        rw [bcols, hp1, hp2, hp3, hq1, hq2, hs1, hs2, hx, hy]
        exact HDd.out.next hs8 hg8
      clear hs8 hg8 hr1 hr2 hm1 hm2
      go_simp
      refine sched_done hKK ?_
      go_wp2
      exact ⟨⟨j + 1, by omega, by go_num, HD8⟩, by simp [intOf]; omega⟩
    · have ej : j = 4 := by omega
      have hjr : ¬ (j : Int) < 4 := by omega
      have HD4 : Hid (TurB w g i m (bcols i m 4 l) wr) := by rw [← ej]; exact hD.out
      clear hD
      go_wp2
      go_loopw [45] (fun i' wr => ∃ j : Nat, j ≤ 4 ∧ i' = .int .i64 j ∧ Hid (TurB w g i m (bslants i m j (bcols i m 4 l)) wr)) (fun i _ => 4 - (intOf i).toNat)
      case atStart => exact ⟨0, by omega, rfl, HD4⟩
      case round =>
        clear HD4
        obtain ⟨q, hq, rfl, hE⟩ := hrel
        by_cases hql : q < 4
        · obtain ⟨p1, hp1⟩ : ∃ p, 4 + (q + 1) % 4 = p := ⟨_, rfl⟩
          obtain ⟨p2, hp2⟩ : ∃ p, 8 + (q + 2) % 4 = p := ⟨_, rfl⟩
          obtain ⟨p3, hp3⟩ : ∃ p, 12 + (q + 3) % 4 = p := ⟨_, rfl⟩
          have e1 : IntKind.i64.wrap ((4 : Int) + (IntKind.i64.wrap ((q : Int) + 1)).tmod 4) = (p1 : Int) := by
            rw [← hp1]; exact slantB q 1 4 hql (by omega) (by omega)
          have e2 : IntKind.i64.wrap ((8 : Int) + (IntKind.i64.wrap ((q : Int) + 2)).tmod 4) = (p2 : Int) := by
            rw [← hp2]; exact slantB q 2 8 hql (by omega) (by omega)
          have e3 : IntKind.i64.wrap ((12 : Int) + (IntKind.i64.wrap ((q : Int) + 3)).tmod 4) = (p3 : Int) := by
            rw [← hp3]; exact slantB q 3 12 hql (by omega) (by omega)
          obtain ⟨q0, hq0⟩ : ∃ p, 2 * q = p := ⟨_, rfl⟩
          obtain ⟨q1, hq1⟩ : ∃ p, 8 + 2 * q = p := ⟨_, rfl⟩
          obtain ⟨q2, hq2⟩ : ∃ p, 9 + 2 * q = p := ⟨_, rfl⟩
          have e4 : IntKind.i64.wrap ((2 : Int) * (q : Int)) = (q0 : Int) := by rw [IntKind.wrap_i64]; omega
          have e5 : IntKind.i64.wrap ((8 : Int) + (q0 : Int)) = (q1 : Int) := by rw [IntKind.wrap_i64]; omega
          have e6 : IntKind.i64.wrap ((q1 : Int) + 1) = (q2 : Int) := by rw [IntKind.wrap_i64]; omega
          have hlq : (q : Int) < 4 := by omega
          have hq16 : (q : Int) < 16 := by omega
          have h116 : (p1 : Int) < 16 := by omega
          have h216 : (p2 : Int) < 16 := by omega
          have h316 : (p3 : Int) < 16 := by omega
          have k116 : (q1 : Int) < 16 := by omega
          have k216 : (q2 : Int) < 16 := by omega
          obtain ⟨s1, hs1⟩ : ∃ s, sig i q1 = s := ⟨_, rfl⟩
          obtain ⟨s2, hs2⟩ : ∃ s, sig i q2 = s := ⟨_, rfl⟩
          have hs1l : s1 < 16 := by rw [← hs1]; exact sig_lt i q1 hi (by omega)
          have hs2l : s2 < 16 := by rw [← hs2]; exact sig_lt i q2 hi (by omega)
          have is1 : (s1 : Int) < 16 := by omega
          have is2 : (s2 : Int) < 16 := by omega
          obtain ⟨x, hx⟩ : ∃ x, at32 m s1 = x := ⟨_, rfl⟩
          obtain ⟨y, hy⟩ : ∃ y, at32 m s2 = y := ⟨_, rfl⟩
          have HEd : Hid (TurB w g i m (bslants i m q (bcols i m 4 l)) wr.drew) := hE.out.drew
          have hsq := hsl q
          clear hE
          go_wp2
          refine wp_region_sched' (G := But g) (by kernel_rfl) (But.refl g) (But.trans g) (by kernel_rfl) [(0, true), (1, true), (2, true), (3, true), (4, true), (5, true), (6, true), (7, true), (8, true), (9, true), (10, true), (11, true), (12, true), (13, true), (14, true), (15, true), (16, true), (17, true), (18, true), (19, true), (20, true), (21, true), (22, true), (23, true), (24, true), (25, true), (26, true), (27, true), (28, true), (29, true), (30, true), (31, true), (32, true), (33, true), (34, true), (35, true), (36, true), (37, true), (38, true), (39, true), (40, false)] rfl (by kernel_rfl) ?_
          intro KK hKK
          generalize wr.drew = W at HEd
          have hr1 : ∀ w', But g W w' → w'.cell? ⟨gr, q1, none⟩ = some (.int .u8 ((s1 : Nat) : Int)) := fun w' hw' => by rw [← hs1]; exact HRW.out _ _ _ HEd.out hw' q1 (by omega)
          have hr2 : ∀ w', But g W w' → w'.cell? ⟨gr, q2, none⟩ = some (.int .u8 ((s2 : Nat) : Int)) := fun w' hw' => by rw [← hs2]; exact HRW.out _ _ _ HEd.out hw' q2 (by omega)
          have hm1 : ∀ w', But g W w' → w'.cell? ⟨gm, s1, none⟩ = some (.int .u32 (x.toNat : Int)) := fun w' hw' => by rw [← hx]; exact HMW.out _ _ _ HEd.out hw' s1 (by omega)
          have hm2 : ∀ w', But g W w' → w'.cell? ⟨gm, s2, none⟩ = some (.int .u32 (y.toNat : Int)) := fun w' hw' => by rw [← hy]; exact HMW.out _ _ _ HEd.out hw' s2 (by omega)
          iterate 40 (refine sched_take rfl (by rfl) (v := ?_) ?_ ?_; rotate_left; (intro w' hw'; have o1 := hr1 w' hw'; have o2 := hr2 w' hw'; have o3 := hm1 w' hw'; have o4 := hm2 w' hw'; clear hw'; go_simp; with_reducible rfl); go_simp)
          refine sched_call (f := 87) (args := #[.pointer (some ⟨g, q, none⟩), .pointer (some ⟨g, p1, none⟩), .pointer (some ⟨g, p2, none⟩), .pointer (some ⟨g, p3, none⟩), .int .u32 (x.toNat : Int), .int .u32 (y.toNat : Int)]) rfl (by rfl) (by go_simp) ?_
          refine (bmix_any g _ _ q p1 p2 p3 x y _ HEd.out.now (by omega) (by omega) (by omega) (by omega)).mono ?_
          rintro e w8 ⟨⟨v, rfl⟩, hs8, hg8⟩
          refine ⟨_, rfl, hg8, ?_⟩
          have HE8 : Hid (TurB w g i m (bslants i m (q + 1) (bcols i m 4 l)) w8) := by
            rw [bslants, hp1, hp2, hp3, hq1, hq2, hs1, hs2, hx, hy]
            exact HEd.out.next hs8 hg8
          clear hs8 hg8 hr1 hr2 hm1 hm2
          go_simp
          refine sched_done hKK ?_
          go_wp2
          exact ⟨⟨q + 1, by omega, by go_num, HE8⟩, by simp [intOf]; omega⟩
        · have eq : q = 4 := by omega
          have hqr : ¬ (q : Int) < 4 := by omega
          have HE4 : Hid (TurB w g i m (bslants i m 4 (bcols i m 4 l)) wr) := by have := hE.out; rw [eq] at this; exact this
          clear hE
          go_wp2
          go_end0
          exact ⟨⟨_, rfl⟩, HE4.out.now, HE4.out.grown⟩
end Go.Proofs.YtdancpcnjklifaaDoor
