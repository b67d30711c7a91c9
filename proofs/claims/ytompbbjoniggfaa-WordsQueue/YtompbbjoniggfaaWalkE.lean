/- The walks over words.NewQueue, Push, Pop and Len: a queue is what was pushed and not yet popped. -/
import Derived.Test.YtompbbjoniggfaaWalkD
import Derived.Test.YtompbbjoniggfaaMath3
import Derived.Deep.QuietTactic
import Derived.BigQuiet
namespace Go.Proofs.Ytompbbjoniggfaa
open Go.RowKit

def iv (x : Int) : Value := .int .i64 x
/-- A queue at block qb that has l, and room for so many. -/
def Que (w : World) (qb : Nat) (a : Option Addr) (room : Int) (l : List Int) : Prop :=
  ∃ n cap, w.heap[qb]? = some (.cells #[.int .i64 room, .slice a n cap] 54 (0, 0)) ∧ Seg w 3 a n cap (l.map iv) ∧ blockOf a ≠ some qb
/-- What a call on a queue leaves alone. -/
structure Fr (w w' : World) (qb : Nat) (a a' : Option Addr) : Prop where
  os : w'.os = w.os
  tape : w'.tape = w.tape
  output : w'.output = w.output
  size : w.heap.size ≤ w'.heap.size
  block : ∀ j, j < w.heap.size → j ≠ qb → some j ≠ blockOf a → w'.heap[j]? = w.heap[j]?
  fresh : blockOf a' = blockOf a ∨ ∀ j, blockOf a' = some j → w.heap.size ≤ j
theorem Fr.below {w w' : World} {qb : Nat} {a a' : Option Addr} (h : Fr w w' qb a a') {B : Nat} (hB : B ≤ w.heap.size) (hq : B ≤ qb) (ha : ∀ j, blockOf a = some j → B ≤ j) : Below B w w' :=
  ⟨h.os, h.tape, h.output, h.size, fun j hj => h.block j (by omega) (by omega) (by intro e; have := ha j e.symm; omega)⟩
theorem Try.infoInt : (Try.prog.info? 3).map (fun i => (i.zero, i.size, i.bytes)) = some (some (.int .i64 0), 1, 8) := by kernel_rfl

set_option maxHeartbeats 400000 in
theorem new_any (n : Int) (w : World) (room : Int) (hr : room = min (max n 0) 65536) :
    Calls Try.prog 24 #[.int .i64 n] w fun e w' => e = .returned (.pointer (some ⟨w.heap.size, 0, none⟩)) ∧ Below w.heap.size w w' ∧ w'.heap.size = w.heap.size + 1 ∧ Que w' w.heap.size none room [] := by
  obtain ⟨mx, e1⟩ : ∃ mx : Int, (if n < 0 then (0 : Int) else n) = mx := ⟨_, rfl⟩
  have e2 : (if 65536 < mx then (65536 : Int) else mx) = room := by rw [hr, ← e1]; split <;> split <;> omega
  clear hr
  go_enter Try.func24, Try.ntmps24
  go_wp2
  go_ret
  refine ⟨rfl, (Below.refl _ _).alloc (Nat.le_refl _) _, by simp, 0, 0, heap_alloc_new w _, Seg.nil _ _, by simp [blockOf]⟩

theorem que_cells {w : World} {qb : Nat} {a : Option Addr} {room : Int} {n cap : Nat} (h : w.heap[qb]? = some (.cells #[.int .i64 room, .slice a n cap] 54 (0, 0))) :
    w.cell? ⟨qb, 0, none⟩ = some (.int .i64 room) ∧ w.cell? ⟨qb, 1, none⟩ = some (.slice a n cap) ∧ w.frozen? ⟨qb, 1, none⟩ = false :=
  ⟨cell_of_row w qb 0 _ _ (0, 0) h, cell_of_row w qb 1 _ _ (0, 0) h, frozen_of_row w qb 1 _ _ h⟩

theorem drewN_heap (w : World) (n : Nat) : (w.drewN n).heap = w.heap := rfl
theorem Seg.drewN {w : World} {e : TypeId} {a : Option Addr} {n cap : Nat} {vs : List Value} (h : Seg w e a n cap vs) (k : Nat) : Seg (w.drewN k) e a n cap vs := h.kept fun g _ => by rw [drewN_heap]
theorem Que.drewN {w : World} {qb : Nat} {a : Option Addr} {room : Int} {l : List Int} (h : Que w qb a room l) (k : Nat) : Que (w.drewN k) qb a room l := by
  obtain ⟨n, cap, h1, h2, h3⟩ := h
  exact ⟨n, cap, by rw [drewN_heap]; exact h1, h2.drewN k, h3⟩
theorem below_drewN {B : Nat} {w0 w : World} (h : Below B w0 w) (n : Nat) : Below B w0 (w.drewN n) := ⟨h.os, h.tape, h.output, h.size, h.block⟩
theorem Fr.drewN (w : World) (n qb : Nat) (a : Option Addr) : Fr w (w.drewN n) qb a a :=
  have h := below_drewN (Below.refl w.heap.size w) n
  ⟨h.os, h.tape, h.output, h.size, fun j _ _ _ => by rw [drewN_heap], .inl rfl⟩

theorem que_set {w : World} {qb : Nat} {a a' : Option Addr} {room : Int} {n cap n' cap' : Nat} {vs : List Value} {l : List Int}
    (h : w.heap[qb]? = some (.cells #[.int .i64 room, .slice a n cap] 54 (0, 0))) (hs : Seg w 3 a' n' cap' vs) (hne : blockOf a' ≠ some qb) (hv : vs = l.map iv) :
    Que (w.setCell ⟨qb, 1, none⟩ (.slice a' n' cap')) qb a' room l := by
  refine ⟨n', cap', ?_, ?_, hne⟩
  · rw [heap_setCell_same w qb 1 _ _ _ h]; rfl
  · rw [← hv]
    exact hs.kept fun g hg => heap_setCell_other w ⟨qb, 1, none⟩ g _ (by intro e; apply hne; rw [hg, e])

set_option maxHeartbeats 400000 in
theorem len_any (qb : Nat) (a : Option Addr) (room : Int) (l : List Int) (w : World) (hQ : Que w qb a room l) :
    Calls Try.prog 27 #[.pointer (some ⟨qb, 0, none⟩)] w fun e w' => e = .returned (.int .i64 (l.length : Int)) ∧ w' = w := by
  obtain ⟨n, cap, hq, hs, hne⟩ := hQ
  obtain ⟨c0, c1, f1⟩ := que_cells hq
  have hn : n = l.length := by have := hs.1; simp at this; omega
  clear hq hs
  subst hn
  go_enter Try.func27, Try.ntmps27
  go_wp2
  go_ret
  exact ⟨rfl, rfl⟩

set_option maxHeartbeats 400000 in
theorem push_no (qb : Nat) (a : Option Addr) (room v : Int) (l : List Int) (w : World) (hQ : Que w qb a room l) (h : ¬ (l.length : Int) < room) :
    Calls Try.prog 25 #[.pointer (some ⟨qb, 0, none⟩), .int .i64 v] w fun e w' => e = .returned (.bool false) ∧ Que w' qb a room l ∧ Fr w w' qb a a := by
  obtain ⟨n, cap, hq, hs, hne⟩ := hQ
  obtain ⟨c0, c1, f1⟩ := que_cells hq
  have hn : n = l.length := by have := hs.1; simp at this; omega
  have H : Hid (Que w qb a room l) := ⟨n, cap, hq, hs, hne⟩
  clear hq hs
  subst hn
  go_enter Try.func25, Try.ntmps25
  go_wp2
  go_quiet (fail)
  go_wp2
  go_ret
  exact ⟨rfl, H.out.drewN nq, Fr.drewN w nq qb a⟩

set_option maxHeartbeats 400000 in
theorem push_yes (qb : Nat) (a : Option Addr) (room v : Int) (l : List Int) (w : World) (hQ : Que w qb a room l) (h : (l.length : Int) < room) (hm : l.length < 1000000) :
    Calls Try.prog 25 #[.pointer (some ⟨qb, 0, none⟩), .int .i64 v] w fun e w' => e = .returned (.bool true) ∧ ∃ a', Que w' qb a' room (l ++ [v]) ∧ Fr w w' qb a a' := by
  obtain ⟨n, cap, hq, hs, hne⟩ := hQ
  obtain ⟨c0, c1, f1⟩ := que_cells hq
  have hn : n = l.length := by have := hs.1; simp at this; omega
  have HQ : Hid (w.heap[qb]? = some (.cells #[.int .i64 room, .slice a n cap] 54 (0, 0))) := hq
  have HS : Hid (Seg w 3 a n cap (l.map iv)) := hs
  have hqlt : qb < w.heap.size := (Array.getElem?_eq_some_iff.1 hq).1
  clear hq hs
  subst hn
  go_enter Try.func25, Try.ntmps25
  go_wp2
  go_quiet (fail)
  obtain ⟨i0, hi, hz0, hz1, hz2⟩ := info_parts Try.infoInt
  obtain ⟨a', cap', w2, hap, hs2, hgr, hfr, _⟩ := append_seg (P := Try.prog) 36 36 3 i0 (.int .i64 0) 8 Try.underlying36 hi hz0 hz1 hz2 rfl (w.drewN nq) a l.length cap (l.map iv) (HS.out.drewN nq) (.int .i64 v) rfl (by unfold maxLen; omega) (by omega)
  rw [drewN_heap] at hap
  have Hs2 : Hid (Seg w2 3 a' (l.length + 1) cap' (l.map iv ++ [.int .i64 v])) := hs2
  have HG : Hid ((w.drewN nq).grownBy w2 (blockOf a)) := hgr
  have HF : Hid (blockOf a' = blockOf a ∨ ∀ j, blockOf a' = some j → (w.drewN nq).heap.size ≤ j) := hfr
  have hq2 : w2.heap[qb]? = some (.cells #[.int .i64 room, .slice a l.length cap] 54 (0, 0)) := by
    rw [hgr.block qb (by rw [drewN_heap]; exact hqlt) (Ne.symm hne), drewN_heap]; exact HQ.out
  obtain ⟨d0, d1, g1⟩ := que_cells hq2
  have HQ2 : Hid (w2.heap[qb]? = some (.cells #[.int .i64 room, .slice a l.length cap] 54 (0, 0))) := hq2
  have HA := hap
  have HAP : Hid ((Builtin.append_ #[36, 36] 36 #[.slice a l.length cap, .slice (some ⟨w.heap.size, 0, none⟩) 1 1]).run Try.prog ((w.drewN nq).alloc (.cells #[.int .i64 v] 3)) = .ok (.slice a' (l.length + 1) cap') w2) := hap
  clear hs2 hgr hfr hq2 hap HA
  go_wp2_with (at_builtin; refine wpList_append_run rfl (.tmp 19) (.tmp 21) 36 rfl _ _ _ _ rfl rfl HAP.out ?_)
  go_ret
  have hne' : blockOf a' ≠ some qb := by
    rcases HF.out with e | e
    · rw [e]; exact hne
    · intro e2
      have := e qb e2
      rw [drewN_heap] at this
      omega
  refine ⟨rfl, a', que_set HQ2.out Hs2.out hne' (by simp [iv]), ?_⟩
  have hg := HG.out
  refine ⟨hg.os, hg.tape, hg.output, by have := hg.size; simpa using this, fun j hj h1 h2 => ?_, HF.out⟩
  rw [heap_setCell_other _ ⟨qb, 1, none⟩ j _ h1]
  exact hg.block j hj h2

set_option maxHeartbeats 400000 in
theorem pop_no (qb : Nat) (a : Option Addr) (room : Int) (w : World) (hQ : Que w qb a room []) :
    Calls Try.prog 26 #[.pointer (some ⟨qb, 0, none⟩)] w fun e w' => e = .returned (.tuple #[.int .i64 0, .bool false]) ∧ w' = w := by
  obtain ⟨n, cap, hq, hs, hne⟩ := hQ
  obtain ⟨c0, c1, f1⟩ := que_cells hq
  have hn : n = 0 := by have := hs.1; simp at this; omega
  clear hq hs
  subst hn
  go_enter Try.func26, Try.ntmps26
  go_wp2
  go_ret2
  exact ⟨rfl, rfl⟩

set_option maxHeartbeats 400000 in
theorem pop_yes (qb : Nat) (a : Option Addr) (room x : Int) (l : List Int) (w : World) (hQ : Que w qb a room (x :: l)) :
    Calls Try.prog 26 #[.pointer (some ⟨qb, 0, none⟩)] w fun e w' => e = .returned (.tuple #[.int .i64 x, .bool true]) ∧ ∃ a', Que w' qb a' room l ∧ Fr w w' qb a a' := by
  obtain ⟨n, cap, hq, hs, hne⟩ := hQ
  obtain ⟨c0, c1, f1⟩ := que_cells hq
  have hn : n = l.length + 1 := by have := hs.1; simp at this; omega
  subst hn
  obtain ⟨g, off, rfl, hc, hf⟩ := hs.cell 0 (by omega)
  have hgq : g ≠ qb := fun e => hne (by rw [e]; rfl)
  rw [Nat.add_zero] at hc hf
  have hc' : w.cell? ⟨g, off, none⟩ = some (.int .i64 x) := hc
  have d1 : (w.setCell ⟨g, off, none⟩ (.int .i64 0)).cell? ⟨qb, 1, none⟩ = some (.slice (some ⟨g, off, none⟩) (l.length + 1) cap) := by
    rw [World.cell?_of_block (heap_setCell_other w ⟨g, off, none⟩ qb _ (Ne.symm hgq))]; exact c1
  have d2 : (w.setCell ⟨g, off, none⟩ (.int .i64 0)).frozen? ⟨qb, 1, none⟩ = false := by
    rw [World.frozen?_of_block (heap_setCell_other w ⟨g, off, none⟩ qb _ (Ne.symm hgq))]; exact f1
  have hcap : l.length + 1 ≤ cap := by
    rcases hs.2 with ⟨e, _⟩ | ⟨_, _, _, _, _, _, h, _⟩
    · cases e
    · exact h
  have HQ : Hid (w.heap[qb]? = some (.cells #[.int .i64 room, .slice (some ⟨g, off, none⟩) (l.length + 1) cap] 54 (0, 0))) := hq
  have HS : Hid (Seg w 3 (some ⟨g, off, none⟩) (l.length + 1) cap ((x :: l).map iv)) := hs
  clear hq hs hc
  have HE : Hid (Que ((w.setCell ⟨g, off, none⟩ (.int .i64 0)).setCell ⟨qb, 1, none⟩ (.slice (some (restAddr g off cap)) l.length (cap - 1))) qb (some (restAddr g off cap)) room l ∧
      Fr w ((w.setCell ⟨g, off, none⟩ (.int .i64 0)).setCell ⟨qb, 1, none⟩ (.slice (some (restAddr g off cap)) l.length (cap - 1))) qb (some ⟨g, off, none⟩) (some (restAddr g off cap))) := by
    have hbl : blockOf (some (restAddr g off cap)) = some g := by unfold restAddr blockOf; split <;> rfl
    refine ⟨que_set (a := some ⟨g, off, none⟩) (n := l.length + 1) (cap := cap) ?_ (HS.out.over (x := .int .i64 0)).rest (by rw [hbl]; exact hne) rfl, ⟨rfl, rfl, rfl, by simp [World.setCell], fun j hj h1 h2 => ?_, .inl hbl⟩⟩
    · rw [heap_setCell_other w ⟨g, off, none⟩ qb _ (Ne.symm hgq)]; exact HQ.out
    · rw [heap_setCell_other _ ⟨qb, 1, none⟩ j _ h1, heap_setCell_other _ ⟨g, off, none⟩ j _ (by intro e; apply h2; rw [e]; rfl)]
  by_cases hc1 : cap = 1
  · have e1 : restAddr g off cap = ⟨g, off, none⟩ := by simp [restAddr, hc1]
    rw [e1, show cap - 1 = 0 by omega] at HE
    clear e1
    subst hc1
    obtain rfl : l = [] := List.eq_nil_of_length_eq_zero (by omega)
    go_enter Try.func26, Try.ntmps26
    go_wp2
    go_ret2
    exact ⟨rfl, _, HE.out⟩
  · have e1 : restAddr g off cap = ⟨g, off + 1, none⟩ := by simp [restAddr, hc1]
    rw [e1] at HE
    go_enter Try.func26, Try.ntmps26
    go_wp2
    go_ret2
    exact ⟨rfl, _, HE.out⟩
end Go.Proofs.Ytompbbjoniggfaa
