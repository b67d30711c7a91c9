/- Where what is appended to lies. -/
import Derived.Test.YtejbhjcopldekaaTools
namespace Go.Proofs.Ytejbhjcopldekaa
set_option linter.unusedVariables false
set_option maxRecDepth 100000
open Go.RowKit

/-- 'append(v, b...)' of bytes that lie anywhere: it lies where v lay, or in a block of its own. -/
theorem append_where (w : World) (base : Nat) (v : Value) (n : Nat) (xs : List UInt8) (hown : w.ownsRow base 5 1 v n (xs.map bv)) (a : Option Addr) (len cap : Nat) (l : List UInt8) (hB : Byt w a len l) (hnil : a = none → cap = 0) (hb : base ≤ w.heap.size) (hsm : n + len ≤ 1000000) :
    ∃ v' w', (Builtin.append_ #[32, 32] 32 #[v, .slice a len cap]).run Try.prog w = .ok v' w' ∧ w'.ownsRow base 5 1 v' (n + len) ((xs ++ l).map bv) ∧ w.grownBy w' v.ownBlock ∧ (v'.ownBlock = v.ownBlock ∨ v'.ownBlock = some w.heap.size) := by
  obtain ⟨i0, hi, hz0, hz1, hz2⟩ := info_parts Try.infoU8
  have hl := hB.1
  cases a with
  | none =>
    obtain ⟨v', w', hr, ho, hg⟩ := append_own_any w base v n xs hown none len cap l hB hnil hb hsm
    have h0 : len = 0 := by
      rcases hB.2 with h0 | ⟨b', off', e, _⟩
      · exact h0
      · cases e
    have hr2 := run_append_owned_none (P := Try.prog) w base 32 32 5 i0 1 Try.underlying32 hi v n _ hown
    refine ⟨v', w', hr, ho, hg, .inl ?_⟩
    rw [hnil rfl, h0] at hr
    have := hr.symm.trans hr2
    cases this
    rfl
  | some x =>
    have hnews := hB.cells x rfl
    have hnl : (l.map bv).length = len * i0.size := by rw [List.length_map, hz1]; omega
    obtain ⟨v', w', hr, ho, hg, h4⟩ := run_append_own (P := Try.prog) w base 32 32 5 i0 (.int .u8 0) 1 1 Try.underlying32 hi hz0 hz1 hz2 rfl (by decide) v n _ hown x len cap (l.map bv) (by rw [List.length_map]; omega) hnews (bv_oneCell l) (by unfold maxLen; omega) (by omega) hb
    refine ⟨v', w', hr, by rw [List.map_append]; exact ho, hg, ?_⟩
    rcases hown.2 with ⟨rfl, rfl⟩ | ⟨g, c, cur, rfl, hbg, hgr, hnc, hcm, hcs, ht⟩
    · by_cases hm : len = 0
      · left
        rw [h4.2 ⟨rfl, hm⟩]
      · right
        have hr2 := run_append_nil (P := Try.prog) w 32 32 5 i0 (.int .u8 0) Try.underlying32 hi hz0 x len cap (l.map bv) hnl hnews (by omega) (by omega) (by rw [hz2]; omega)
        have := hr.symm.trans hr2
        cases this
        rfl
    · by_cases hroom : n + len ≤ c
      · left
        have hr2 := run_append_room (P := Try.prog) w 32 32 5 i0 Try.underlying32 hi g n c cur hgr x len cap (l.map bv) hnl hnews (bv_oneCell l) hroom (by rw [hz1, List.length_map]; omega)
        have := hr.symm.trans hr2
        cases this
        rfl
      · right
        have holds : ∀ j u, (xs.map bv)[j]? = some u → w.cell? ((⟨g, 0, none⟩ : Addr).add j) = some u := hown.cells (g := g) rfl
        have hr2 := run_append_grow (P := Try.prog) w 32 32 5 i0 (.int .u8 0) Try.underlying32 hi hz0 ⟨g, 0, none⟩ n c (xs.map bv) (by rw [hz1]; exact hown.1) holds x len cap (l.map bv) hnl hnews (by omega) (by omega) (growslice_fits (by omega) (by rw [hz2]; omega))
        have := hr.symm.trans hr2
        cases this
        rfl
/-- What one owns stays, where another block grows. -/
theorem own_but {w w' : World} {base : Nat} {e : TypeId} {v : Value} {n : Nat} {xs : List Value} {row : Option Nat} (h : w.ownsRow base e 1 v n xs) (hg : w.grownBy w' row) (hne : ∀ b, v.ownBlock = some b → row ≠ some b) : w'.ownsRow base e 1 v n xs := by
  refine ⟨h.1, ?_⟩
  rcases h.2 with h0 | ⟨g, cap, cur, rfl, hb, hgr, h1⟩
  · exact .inl h0
  · refine .inr ⟨g, cap, cur, rfl, hb, ?_, h1⟩
    rw [hg.block g (Array.getElem?_eq_some_iff.1 hgr).1 (fun e => hne g rfl e.symm)]
    exact hgr
theorem own_base {w : World} {base : Nat} {e : TypeId} {v : Value} {n : Nat} {xs : List Value} (h : w.ownsRow base e 1 v n xs) : ∀ b, v.ownBlock = some b → base ≤ b ∧ b < w.heap.size := by
  intro b hb
  rcases h.2 with ⟨rfl, _⟩ | ⟨g, cap, cur, rfl, h1, hgr, _⟩
  · cases hb
  · cases hb
    exact ⟨h1, (Array.getElem?_eq_some_iff.1 hgr).1⟩
end Go.Proofs.Ytejbhjcopldekaa
