/- The walk over the document's block. -/
import Derived.Test.YthjkjfoelekeeaaDoorRefD
namespace Go.Proofs.YthjkjfoelekeeaaDoor
set_option linter.unusedVariables false
open Go.RowKit

theorem wv_oneCell (l : List (BitVec 32)) : ∀ u ∈ l.map wv, u.oneCell' = true := by
  intro u hu
  simp only [List.mem_map] at hu
  obtain ⟨c, _, rfl⟩ := hu
  rfl
/-- 'append(l, s...)' of words. -/
theorem append_words (w : World) (base : Nat) (v : Value) (n : Nat) (xs : List (BitVec 32)) (hown : w.ownsRow base 47 1 v n (xs.map wv)) (x : Addr) (m c : Nat) (ys : List (BitVec 32)) (hs : Seg w 47 (some x) m c (ys.map wv)) (hb : base ≤ w.heap.size) (hsm : n + m ≤ 1000) :
    ∃ v' w', (Builtin.append_ #[45, 45] 45 #[v, .slice (some x) m c]).run Tryd.prog w = .ok v' w' ∧ w'.ownsRow base 47 1 v' (n + m) ((xs ++ ys).map wv) ∧ w.grownBy w' v.ownBlock := by
  obtain ⟨i0, hi, hz0, hz1, hz2⟩ := info_parts Tryd.infoU64
  have hl := hs.1
  obtain ⟨v', w', hr, ho, hg, _⟩ := run_append_own (P := Tryd.prog) w base 45 45 47 i0 (.int .u64 0) 1 8 Tryd.underlying45 hi hz0 hz1 hz2 rfl (by decide) v n _ hown x m c (ys.map wv) (by omega) hs.cellsW (wv_oneCell ys) (by unfold maxLen; omega) (by omega) hb
  exact ⟨v', w', hr, by rw [List.map_append]; exact ho, hg⟩
/-- Between the turns: the words, and what they were. -/
structure Cha (w : World) (g h cg ch : Nat) (l l0 : List (BitVec 32)) (wr : World) : Prop where
  now : Seg wr 47 (some ⟨g, 0, none⟩) 16 cg (l.map wv)
  was : Seg wr 47 (some ⟨h, 0, none⟩) 16 ch (l0.map wv)
  ne : h ≠ g
  bg : w.heap.size ≤ g
  bel : Below w.heap.size w wr
theorem Cha.next {w wr w' : World} {g h cg ch : Nat} {l l' l0 : List (BitVec 32)} (c : Cha w g h cg ch l l0 wr) (hs : Seg w' 47 (some ⟨g, 0, none⟩) 16 cg (l'.map wv)) (hg : wr.grownBy w' (some g)) : Cha w g h cg ch l' l0 w' :=
  ⟨hs, c.was.kept fun j hj => by
      have e : j = h := by simp [blockOf] at hj; exact hj.symm
      subst e
      exact hg.block j (c.was.lt j rfl) (fun e => c.ne (by cases e; rfl)),
    c.ne, c.bg, c.bel.grown hg c.bel.size (fun k e => by cases e; exact c.bg)⟩
theorem Cha.grow {w wr w' : World} {g h cg ch : Nat} {l l0 : List (BitVec 32)} (c : Cha w g h cg ch l l0 wr) (hb : Below wr.heap.size wr w') : Cha w g h cg ch l l0 w' :=
  ⟨c.now.kept fun j hj => hb.block j (c.now.lt j hj), c.was.kept fun j hj => hb.block j (c.was.lt j hj), c.ne, c.bg, c.bel.trans (hb.mono c.bel.size)⟩
theorem rem4 (k j : Nat) : ((k : Int) + (j : Int)).tmod 4 = (((k + j) % 4 : Nat) : Int) := by
  rw [Int.tmod_eq_emod_of_nonneg (by omega)]; omega

end Go.Proofs.YthjkjfoelekeeaaDoor
