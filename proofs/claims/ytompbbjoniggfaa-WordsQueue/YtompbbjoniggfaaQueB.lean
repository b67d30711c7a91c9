/- The walks over slices.Clone, words.All, and what ranges over a queue: all that are there when the range begins, the first one first. -/
import Derived.Test.YtompbbjoniggfaaRefX
import Derived.RangeFuncNested
import Derived.RangeFuncBound
import Derived.RangeFuncCalls
import Derived.RangeFuncLeaves
import Derived.Shelf.Abstract
import Derived.OwnWalkIn
import Derived.TacticsInMore
import Derived.LoopNIn
import Derived.LoopIn
import Derived.Lib.LazyBuf
namespace Go.Proofs.Ytompbbjoniggfaa
open Go.RowKit Go.Shelf
set_option linter.unusedVariables false
attribute [local go_sem] Oper.semAt_some

theorem iv_oneCell (l : List Int) : ∀ u ∈ l.map iv, u.oneCell' = true := by
  intro u hu
  simp only [List.mem_map] at hu
  obtain ⟨c, _, rfl⟩ := hu
  rfl
theorem Seg.ofOwn2 {w : World} {base : Nat} {e : TypeId} {v : Value} {n : Nat} {xs : List Value} (h : w.ownsRow base e 1 v n xs) :
    ∃ a cap, v = .slice a n cap ∧ Seg w e a n cap xs ∧ ∀ j, blockOf a = some j → base ≤ j := by
  rcases h.2 with ⟨rfl, rfl⟩ | ⟨g, cap, cur, rfl, hb, hg, hnc, hcm, hcs, htake⟩
  · exact ⟨none, 0, rfl, ⟨by have := h.1; simpa using this, .inl ⟨rfl, rfl, rfl⟩⟩, by intro j hj; simp [blockOf] at hj⟩
  · refine ⟨some ⟨g, 0, none⟩, cap, rfl, ⟨by have := h.1; omega, .inr ⟨g, 0, cur, rfl, hg, by omega, hnc, fun i hi => ?_⟩⟩, by intro j hj; simp [blockOf] at hj; omega⟩
    rw [← htake, List.getElem?_take, if_pos (by omega)]
    simp
theorem Seg.cells {w : World} {e : TypeId} {x : Addr} {n cap : Nat} {vs : List Value} (h : Seg w e (some x) n cap vs) : ∀ j v, vs[j]? = some v → w.cell? (x.add j) = some v := by
  intro j v hj
  have hl := h.1
  have hjn : j < n := by
    rcases Nat.lt_or_ge j vs.length with hh | hh
    · omega
    · rw [List.getElem?_eq_none hh] at hj; cases hj
  obtain ⟨g, off, e, hc, _⟩ := h.cell j hjn
  cases e
  rw [addr_add, hc, hj]
/-- 'append([]int{}, s...)'. -/
theorem append_ints (w : World) (x : Addr) (n cap : Nat) (l : List Int) (h : Seg w 3 (some x) n cap (l.map iv)) (hm : n ≤ 1000000) :
    ∃ a' cap' w2, (Builtin.append_ #[36, 36] 36 #[.slice (some ⟨w.heap.size, 0, none⟩) 0 0, .slice (some x) n cap]).run Try.prog (w.alloc (.cells #[] 3)) = .ok (.slice a' n cap') w2 ∧
      Seg w2 3 a' n cap' (l.map iv) ∧ Below w.heap.size w w2 ∧ ∀ j, blockOf a' = some j → w.heap.size ≤ j := by
  obtain ⟨i0, hi, hz0, hz1, hz2⟩ := info_parts Try.infoInt
  have hbel : Below w.heap.size w (w.alloc (.cells #[] 3)) := (Below.refl _ _).alloc (Nat.le_refl _) _
  have hown : (w.alloc (.cells #[] 3)).ownsRow w.heap.size 3 1 (.slice (some ⟨w.heap.size, 0, none⟩) 0 0) 0 [] := World.ownsRow_made w #[] 0 (Nat.le_refl _) (Nat.zero_le _) rfl
  have hseg2 : Seg (w.alloc (.cells #[] 3)) 3 (some x) n cap (l.map iv) := h.kept fun g hg => Below.heap_alloc w _ g (h.lt g hg)
  have hl := h.1
  obtain ⟨v', w2, hr, hown2, hgr, _⟩ := run_append_own (P := Try.prog) (w.alloc (.cells #[] 3)) w.heap.size 36 36 3 i0 (.int .i64 0) 1 8 Try.underlying36 hi hz0 hz1 hz2 rfl (by decide) _ 0 [] hown x n cap (l.map iv) (by omega) hseg2.cells (iv_oneCell l) (by unfold maxLen; omega) (by omega) (by simp)
  rw [Nat.zero_add, List.nil_append] at hown2
  obtain ⟨a', cap', rfl, hs, hb⟩ := Seg.ofOwn2 hown2
  exact ⟨a', cap', w2, hr, hs, hbel.grown hgr (by simp) (by intro k hk; simp [Value.ownBlock] at hk; omega), hb⟩

set_option maxHeartbeats 400000 in
theorem clone_any (a : Option Addr) (n cap : Nat) (l : List Int) (w : World) (h : Seg w 3 a n cap (l.map iv)) (hm : n ≤ 1000000) :
    Calls Try.prog 34 #[.slice a n cap] w fun e w' => ∃ a' cap', e = .returned (.slice a' n cap') ∧ Seg w' 3 a' n cap' (l.map iv) ∧ Below w.heap.size w w' ∧ ∀ j, blockOf a' = some j → w.heap.size ≤ j := by
  have hnl := fun (w : World) => Lib.run_eql_slice_nil (P := Try.prog) w 36 3 a n cap 0 0 Try.underlying36
  cases a with
  | none =>
    have h0 : n = 0 := by
      rcases h.2 with ⟨_, h, _⟩ | ⟨_, _, _, e, _⟩
      · exact h
      · cases e
    subst h0
    have HS : Hid (Seg w 3 none 0 cap (l.map iv)) := h
    clear h
    go_enter Try.func34, Try.ntmps34
    go_wp2
    go_ret
    have hl : l.map iv = [] := List.eq_nil_of_length_eq_zero HS.out.1
    exact ⟨none, 0, rfl, ⟨HS.out.1, .inl ⟨rfl, rfl, rfl⟩⟩, Below.refl _ _, by intro j hj; simp [blockOf] at hj⟩
  | some x =>
    obtain ⟨a', cap', w2, hr, hs, hb, hbl⟩ := append_ints w x n cap l h hm
    have HR : Hid (_) := hr
    clear hr
    go_enter Try.func34, Try.ntmps34
    go_wp2_with (at_builtin; refine wpList_append_run rfl (.tmp 5) (.tmp 6) 36 rfl _ _ _ _ rfl rfl HR.out ?_)
    go_ret
    exact ⟨a', cap', rfl, hs, hb, hbl⟩

set_option maxHeartbeats 400000 in
theorem all_any (qb : Nat) (w : World) :
    Calls Try.prog 28 #[.pointer (some ⟨qb, 0, none⟩)] w fun e w' => e = .returned (.func (.func 33) #[] #[.pointer (some ⟨w.heap.size, 0, none⟩)]) ∧ w' = w.alloc (.cells #[.pointer (some ⟨qb, 0, none⟩)] 37) := by
  go_enter Try.func28, Try.ntmps28
  go_wp2
  go_ret
  exact ⟨rfl, rfl⟩

/-- What a round that goes on keeps: all cells but those of one block. -/
def KeepBut (kb : Nat) (W W' : World) : Prop := ∀ g cs t fr, g ≠ kb → W.heap[g]? = some (.cells cs t fr) → W'.heap[g]? = some (.cells cs t fr)
theorem keepBut_t {kb : Nat} {A B C : World} (h : KeepBut kb A B) (k : KeepBut kb B C) : KeepBut kb A C := fun g cs t fr hg hc => k g cs t fr hg (h g cs t fr hg hc)
theorem keepBut_b {kb : Nat} {w : World} (W : World) (l : Nat) (o o' : Obj) (_ : w.heap.size ≤ l) (h : W.heap[l]? = some o) (hc : o.isCells = false) (_ : o.isWalk = false) : KeepBut kb W (W.putObj l o') := by
  intro g cs t fr hg hcs
  rw [World.putObj_heap_other]
  · exact hcs
  · intro e
    subst e
    rw [h] at hcs
    cases hcs
    simp [Obj.isCells] at hc
theorem Seg.keepBut {kb : Nat} {w w' : World} {e : TypeId} {a : Option Addr} {n cap : Nat} {vs : List Value} (h : Seg w e a n cap vs) (hk : KeepBut kb w w') (hne : blockOf a ≠ some kb) : Seg w' e a n cap vs := by
  refine ⟨h.1, ?_⟩
  rcases h.2 with h0 | ⟨g, off, cur, rfl, hg, h1, h2, h3⟩
  · exact .inl h0
  · exact .inr ⟨g, off, cur, rfl, hk g cur e (0, 0) (fun e => hne (by rw [← e]; rfl)) hg, h1, h2, h3⟩

set_option maxRecDepth 100000 in
set_option maxHeartbeats 2000000 in
theorem all_stops (m : Nat) (hm : 1 ≤ m) (Bn qb kb : Nat) (a : Option Addr) (room : Int) (l : List Int) (w0 : World) (hb : w0.cell? ⟨Bn, 0, none⟩ = some (.pointer (some ⟨qb, 0, none⟩))) (hQ : Que w0 qb a room l) (hl : l.length ≤ 1000000)
    (hkb : kb < w0.heap.size) :
    SeqStopsK Fence.wide m Try.prog 33 #[.pointer (some ⟨Bn, 0, none⟩)] (fun x : Int => #[.int .i64 x]) (KeepBut kb) (fun xs => xs = l) (fun pre => pre <+: l) l.length w0 := by
  intro lp J Jx W hW hJ hJx hY h0
  have hBn := World.block_lt_of_cell? w0 _ hb
  have hb' : W.cell? ⟨Bn, 0, none⟩ = some (.pointer (some ⟨qb, 0, none⟩)) := by rw [hW.cell (p := ⟨Bn, 0, none⟩) hBn]; exact hb
  obtain ⟨n, cap, hq, hs, hne⟩ := hQ
  have hqlt : qb < w0.heap.size := (Array.getElem?_eq_some_iff.1 hq).1
  have hq' : W.heap[qb]? = some (.cells #[.int .i64 room, .slice a n cap] 54 (0, 0)) := by rw [hW.block qb hqlt]; exact hq
  have hs' : Seg W 3 a n cap (l.map iv) := hs.kept fun g hg => hW.block g (hs.lt g hg)
  obtain ⟨c0, c1, f1⟩ := que_cells hq'
  have hn : n = l.length := by have := hs.1; simp at this; omega
  subst hn
  have hWs := hW.size
  refine callsIn_of_wp Try.func33 rfl trivial ?_ rfl
  simp only [Try.ntmps33, List.size_toArray, List.length_cons, List.length_nil, Nat.reduceAdd, Nat.reduceSub, Array.replicate_succ, Array.replicate_zero, List.push_toArray, List.append_toArray, List.nil_append, List.cons_append]
  gi_wp2_with (refine ⟨trivial, ?_⟩; gi_at_call 34; refine (callsIn_wide.2 (clone_any a l.length cap l W hs' hl)).mono ?_)
  rintro e w2 a2 cap2 rfl hs2 hb2 hbl2
  have hJ2 : J [] w2 := hJ [] W w2 none h0 ⟨hb2.os, hb2.tape, hb2.output, hb2.size, fun k hk _ => hb2.block k hk⟩ (by intro r e; cases e)
  have hne2 : blockOf a2 ≠ some kb := by intro e; have := hbl2 kb e; omega
  gi_wp2
  gi_loopw [11] (fun i wr => ∃ k : Nat, k ≤ l.length ∧ i = .int .i64 k ∧ J (l.take k) wr ∧ Seg wr 3 a2 l.length cap2 (l.map iv)) (fun i _ => l.length - (intOf i).toNat)
  case atStart => exact ⟨0, Nat.zero_le _, rfl, hJ2, hs2⟩
  case round =>
    obtain ⟨k, hk, rfl, hJs, hseg⟩ := hrel
    by_cases hlt : k < l.length
    · obtain ⟨g, off, rfl, hc, _⟩ := hseg.cell k hlt
      obtain ⟨x, hx⟩ : ∃ x, l[k] = x := ⟨_, rfl⟩
      have hc' : wr.cell? ⟨g, off + k, none⟩ = some (.int .i64 x) := by
        rw [hc, List.getElem?_map, List.getElem?_eq_getElem hlt, hx]
        rfl
      have HX : Hid (l.take (k + 1) = l.take k ++ [x]) := by
        show _ = _
        rw [List.take_succ_eq_append_getElem hlt, hx]
      obtain ⟨fn, tmps, assign, body, hy, hR⟩ := hY _ x wr hJs (by rw [List.length_take]; omega)
      clear hc hx
      gi_wp2
      refine hR.mono ?_
      rintro e W3 (⟨rfl, hJ3, hk3⟩ | ⟨rfl, hJx3⟩)
      · have hseg3 := hseg.keepBut hk3 hne2
        gi_wp2
        go_roundw
        case rel => exact ⟨k + 1, by omega, by go_num, by rw [HX.out]; exact hJ3, hseg3⟩
        case measure => simp [intOf]; omega
      · gi_wp2
        refine bodyPost_ret (results_none rfl _ _ _) rfl ?_
        exact ⟨⟨_, rfl⟩, .inr ⟨_, ⟨l.drop (k + 1), by rw [← HX.out]; exact List.take_append_drop _ _⟩, hJx3⟩⟩
    · have ek : k = l.length := by omega
      subst ek
      gi_wp2
      go_end0
      exact ⟨⟨_, rfl⟩, .inl ⟨_, List.take_of_length_le (Nat.le_refl _), hJs⟩⟩
end Go.Proofs.Ytompbbjoniggfaa
