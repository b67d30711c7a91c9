/- A region that leaves its order open, each of whose operations leaves a value of which something is known, and only makes memory; the last ones wait for all others. No program is named here. -/
import Derived.Test.YtdancpcnjklifaaDoorSchedI
namespace Go.Proofs.YtdancpcnjklifaaDoor
set_option linter.unusedVariables false
set_option maxRecDepth 100000
open Go.RowKit

theorem vup_ne {v : Nat → Value} {i j : Nat} {x : Value} (h : j ≠ i) : upd v i x j = v j := by simp [upd, h]
theorem vup_eq {v : Nat → Value} {i : Nat} {x : Value} : upd v i x i = x := by simp [upd]
theorem valso_ne {d : Nat → Bool} {i j : Nat} (h : j ≠ i) : also d i j = d j := by simp [also, h]
/-- Does no operation ahead of the m-th leave something there? -/
def voldB (ops : Array Oper) (m p : Nat) : Bool := (List.range m).all fun j => dstOf ops j != some p
theorem Here.keep {ops : Array Oper} {m : Nat} {v : Nat → Value} {d : Nat → Bool} {a A : Act} (h : Here ops m v d a A) (p : Nat) (hp : voldB ops m p = true) : A.eval (.tmp p) = a.tmps.getD p undef :=
  h.old p fun j hj e => by
    unfold voldB at hp
    rw [List.all_eq_true] at hp
    have := hp j (List.mem_range.2 hj)
    rw [e] at this
    simp at this
theorem vdone {o : Oper} {d : Nat → Bool} (hd : ∀ e ∈ o.after, Region.binds .any e = true → d e.on = true) (j : Nat) (h : (o.after.any fun e => Region.binds .any e && e.on == j) = true) : d j = true := by
  obtain ⟨q, hq, hqq⟩ := Array.any_eq_true.1 h
  obtain ⟨hb, hon⟩ := Bool.and_eq_true_iff.1 hqq
  have := hd o.after[q] (Array.getElem_mem hq) hb
  rw [show o.after[q].on = j by simpa using hon] at this
  exact this
/-- What Here tells of what an operation that has come left in its slot. -/
theorem Here.got {ops : Array Oper} {m : Nat} {v : Nat → Value} {d : Nat → Bool} {a A : Act} (h : Here ops m v d a A) {o : Oper} (hd : ∀ e ∈ o.after, Region.binds .any e = true → d e.on = true) (j p : Nat) (hj : j < m) (hw : (o.after.any fun e => Region.binds .any e && e.on == j) = true) (hp : dstOf ops j = some p) (hs : p < a.tmps.size) : A.eval (.tmp p) = v j :=
  h.new j p hj (vdone hd j hw) hp hs
theorem wp_region_vals {P : Program} {ops : Array Oper} {Q : Exit → Act → World → Prop} {id : Nat} {a : Act} {w : World} (m : Nat) (hm : m ≤ ops.size) (hmx : P.follows .mixedOrders = true) (hdown : downB .any ops = true) (hap : apartB ops m = true) (htl : tailB .any ops m = true)
    (Sp : Nat → Value → World → Prop) (hmono : ∀ j x W W', Sp j x W → Below W.heap.size W W' → Sp j x W')
    (hval : ∀ (d : Nat → Bool) (v : Nat → Value) (W : World) (i : Nat) (o : Oper) (A : Act), i < m → ops[i]? = some o → (∀ j, j < m → d j = true → Sp j (v j) W) → (∀ e ∈ o.after, Region.binds .any e = true → d e.on = true) → Here ops m v d a A → Below w.drew.heap.size w.drew W →
      Region.wanted o (yielded ops A.tmps) = true ∧ o.wp P A W (fun a' W' => ∃ x, a' = A.put o.dst x ∧ Sp i x W' ∧ Below W.heap.size W W') Q)
    (hend : ∀ (v : Nat → Value) (W : World), (∀ j, j < m → Sp j (v j) W) → Below w.drew.heap.size w.drew W → wpList P ops Q (ops.toList.drop m) (putAll ops v (fun _ => true) m a) W) :
    (Code.region id ops true).wp P Q a w := by
  refine wp_region_free hmx m hm hdown hap htl (fun d v W => Below w.drew.heap.size w.drew W ∧ ∀ j, j < m → d j = true → Sp j (v j) W) (fun _ => undef) ⟨Below.refl _ _, fun j _ h => by cases h⟩ ?_ ?_
  · rintro d v W i o A ⟨hb, hS⟩ hi ho hdi hall hA
    obtain ⟨hw, hwp⟩ := hval d v W i o A hi ho hS hall hA hb
    refine ⟨hw, Oper.wp_mono ?_ hwp⟩
    rintro a' W' ⟨x, rfl, hx, hb'⟩
    refine ⟨x, rfl, hb.trans (hb'.mono hb.size), fun j hj hdj => ?_⟩
    by_cases e : j = i
    · subst e; rw [vup_eq]; exact hx
    · rw [vup_ne e]
      rw [valso_ne e] at hdj
      exact hmono j _ _ _ (hS j hj hdj) hb'
  · rintro d v W hall ⟨hb, hS⟩
    exact hend v W (fun j hj => hS j hj (hall j hj)) hb
theorem slotv {A : Act} {p : Nat} {x : Value} (h : A.eval (.tmp p) = x) : A.tmps[p]?.getD undef = x := by
  rw [← h]
  simp [Act.eval]
/-- The rest of a region, over what its operations left. -/
theorem vtail {P : Program} {ops : Array Oper} {Q : Exit → Act → World → Prop} {l l' : List Oper} {a a' : Act} {w : World} (hl : l = l') (ha : a = a') (h : wpList P ops Q l' a' w) : wpList P ops Q l a w := by rw [hl, ha]; exact h
end Go.Proofs.YtdancpcnjklifaaDoor
