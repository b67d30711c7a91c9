/- A region that leaves its order open, whose last operation (a store) turns what the others looked at: it waits for all the others, for some of them through one between. No program is named here. -/
import Derived.Test.YtejbhjcopldekaaSched
namespace Go.Proofs.Ytejbhjcopldekaa
set_option maxRecDepth 100000
open Go.RowKit

section
variable {P : Program} {ops : Array Oper} {Q : Exit → Act → World → Prop} {md : Region.Mode} {G : World → World → Prop}

/-- Whatever has come, what it waits for has come. -/
def Closed (md : Region.Mode) (ops : Array Oper) (listed : Array Bool) : Prop := ∀ k o, ops[k]? = some o → listed.getD k false = true → ∀ e ∈ o.after, Region.binds md e = true → listed.getD e.on false = true
theorem set_keeps {listed : Array Bool} {i x : Nat} (h : listed.getD x false = true) : (listed.setIfInBounds i true).getD x false = true := by
  by_cases hx : i = x
  · subst hx
    rcases Nat.lt_or_ge i listed.size with h' | h'
    · simp [h']
    · simp [h'] at h
  · rw [getD_set_ne false hx]; exact h
theorem Closed.set {listed : Array Bool} {i : Nat} (h : Closed md ops listed) (hi : i ∈ Region.ready md ops listed) : Closed md ops (listed.setIfInBounds i true) := by
  intro k o ho hk e he hb
  obtain ⟨_, oi, hoi, hall⟩ := mem_ready.1 hi
  by_cases hik : i = k
  · subst hik
    rw [hoi] at ho
    cases ho
    exact set_keeps (hall e he hb)
  · rw [getD_set_ne false hik] at hk
    exact set_keeps (h k o ho hk e he hb)
theorem Closed.none (n : Nat) : Closed md ops (Array.replicate n false) := by
  intro k o _ hk
  rcases Nat.lt_or_ge k n with h' | h'
  · simp [h'] at hk
  · simp [h'] at hk
/-- Does it wait for all the others, through one between at most? -/
def endsT (md : Region.Mode) (ops : Array Oper) (j : Nat) : Bool :=
  match ops[j]? with
  | none => false
  | some o => (List.range ops.size).all fun k => k == j || o.after.any fun e => Region.binds md e && (e.on == k || match ops[e.on]? with | some o2 => o2.after.any fun e2 => Region.binds md e2 && e2.on == k | none => false)
theorem endsT_spec {listed : Array Bool} {i j : Nat} (hc : Closed md ops listed) (h : endsT md ops j = true) (hj : j ∈ Region.ready md ops listed) (hi : i ∈ Region.ready md ops listed) (hij : j ≠ i) : False := by
  obtain ⟨_, oj, hoj, hall⟩ := mem_ready.1 hj
  obtain ⟨hiun, oi, hoi, _⟩ := mem_ready.1 hi
  simp only [endsT, hoj, List.all_eq_true, List.mem_range] at h
  have hlt : i < ops.size := (Array.getElem?_eq_some_iff.1 hoi).1
  have h1 := h i hlt
  have hun : listed.getD i false = true → False := fun h2 => by
    rcases Nat.lt_or_ge i listed.size with h' | h'
    · simp [h'] at hiun h2; rw [hiun] at h2; cases h2
    · simp [h'] at h2
  simp only [Bool.or_eq_true, beq_iff_eq] at h1
  rcases h1 with h1 | h1
  · exact hij h1.symm
  · obtain ⟨q, hq, hqq⟩ := Array.any_eq_true.1 h1
    obtain ⟨hb, hon⟩ := Bool.and_eq_true_iff.1 hqq
    have h2 := hall _ (Array.getElem_mem hq) hb
    simp only [Bool.or_eq_true, beq_iff_eq] at hon
    rcases hon with hon | hon
    · rw [hon] at h2
      exact hun h2
    · cases ho2 : ops[oj.after[q].on]? with
      | none => rw [ho2] at hon; cases hon
      | some o2 =>
        rw [ho2] at hon
        obtain ⟨r, hr, hb2, hon2⟩ : ∃ (r : Nat) (hr : r < o2.after.size), Region.binds md o2.after[r] = true ∧ o2.after[r].on = i := by simpa using hon
        have h3 := hc _ o2 ho2 h2 _ (Array.getElem_mem hr) hb2
        rw [hon2] at h3
        exact hun h3
theorem endsT_of_ends {j : Nat} (h : endsB md ops j = true) : endsT md ops j = true := by
  unfold endsB at h
  unfold endsT
  cases ho : ops[j]? with
  | none => rw [ho] at h; cases h
  | some o =>
    rw [ho] at h
    simp only [List.all_eq_true, List.mem_range, Bool.or_eq_true, beq_iff_eq] at h ⊢
    intro k hk
    rcases h k hk with h1 | h1
    · exact .inl h1
    · right
      obtain ⟨q, hq, hb, hon⟩ : ∃ (q : Nat) (hq : q < o.after.size), Region.binds md o.after[q] = true ∧ o.after[q].on = k := by simpa using h1
      rw [Array.any_eq_true]
      exact ⟨q, hq, by simp [hb, hon]⟩
/-- Whatever order is picked from here on, each step being one of G, but the last. -/
def wpAnyE (P : Program) (md : Region.Mode) (ops : Array Oper) (Q : Exit → Act → World → Prop) (G : World → World → Prop) : Nat → Array Bool → Act → World → Prop
  | 0, listed, a, w => Region.ready md ops listed = [] ∧ Q .normal a w
  | fuel + 1, listed, a, w =>
    (Region.ready md ops listed = [] → Q .normal a w) ∧
    ∀ i ∈ Region.ready md ops listed, wpOp P ops Q i (fun a' w' => (G w w' ∨ endsT md ops i = true) ∧ wpAnyE P md ops Q G fuel (listed.setIfInBounds i true) a' w') a w
theorem wpAny_of_E : ∀ (fuel : Nat) (listed : Array Bool) (a : Act) (w : World), wpAnyE P md ops Q G fuel listed a w → wpAny P md ops Q fuel listed a w
  | 0, _, _, _, h => h
  | fuel + 1, _, _, _, h => ⟨h.1, fun i hi => wpOp_mono (fun a' w' h' => wpAny_of_E fuel _ a' w' h'.2) (h.2 i hi)⟩
theorem wpAnyE_first (hrefl : ∀ w, G w w) (htrans : ∀ a b c, G a b → G b c → G a c) {i : Nat} {oi : Oper} {v : Value} (hi : ops[i]? = some oi) (hsel : ∀ (j : Nat) (o : Oper) cs b, ops[j]? = some o → o.op ≠ .select cs b)
    (hQ : ∀ c a w, Q (.panic c) (a.put oi.dst v) w → Q (.panic c) a w) :
    ∀ (fuel : Nat) (listed : Array Bool) (a : Act) (w : World), Closed md ops listed →
      (∀ j oj, ops[j]? = some oj → j ≠ i → listed.getD j true = false → (∀ e ∈ oj.after, Region.binds md e = true → e.on ≠ i) → oi.apart ops oj = true) →
      i ∈ Region.ready md ops listed → YieldsIf P ops (G w) oi v a →
      wpAnyE P md ops Q G fuel (listed.setIfInBounds i true) (a.put oi.dst v) w → wpAnyE P md ops Q G (fuel + 1) listed a w := by
  intro fuel
  induction fuel with
  | zero =>
    intro listed a w _ _ hr hy H
    refine ⟨fun h => (by rw [h] at hr; cases hr), fun j hj => ?_⟩
    by_cases hji : j = i
    · subst hji; exact hy.wpOp hi (hrefl w) ⟨.inl (hrefl w), H⟩
    · have := ready_mono hj hji
      rw [H.1] at this
      cases this
  | succ fuel ih =>
    intro listed a w hcl hfree hr hy H
    refine ⟨fun h => (by rw [h] at hr; cases hr), fun j hj => ?_⟩
    by_cases hji : j = i
    · subst hji; exact hy.wpOp hi (hrefl w) ⟨.inl (hrefl w), H⟩
    · have h1 := H.2 j (ready_mono hj hji)
      obtain ⟨hjun, oj, hoj, hall⟩ := mem_ready.1 hj
      have hnot : ∀ e ∈ oj.after, Region.binds md e = true → e.on ≠ i := fun e he hb heq => by
        have h1 := hall e he hb
        have h0 := (mem_ready.1 hr).1
        rw [heq] at h1
        rcases Nat.lt_or_ge i listed.size with h' | h'
        · simp [h'] at h0 h1; rw [h0] at h1; cases h1
        · simp [Array.getElem?_eq_none h'] at h1
      have h2 := wpOp_putIf hoj (hfree j oj hoj hji hjun hnot) (fun cs b => hsel i oi cs b hi) (fun cs b => hsel j oj cs b hoj) hQ hy h1
      have hfree' : ∀ k ok, ops[k]? = some ok → k ≠ i → (listed.setIfInBounds j true).getD k true = false →
          (∀ e ∈ ok.after, Region.binds md e = true → e.on ≠ i) → oi.apart ops ok = true := fun k ok hk hki hun hno => by
        refine hfree k ok hk hki ?_ hno
        by_cases hjk : j = k
        · subst hjk; exact hjun
        · rw [getD_set_ne true hjk] at hun; exact hun
      refine wpOp_mono (fun a' w' h3 => ?_) h2
      have hG : G w w' := h3.2.1.resolve_right (fun he => endsT_spec hcl he hj hr hji)
      refine ⟨.inl hG, ih (listed.setIfInBounds j true) a' w' (hcl.set hj) hfree' (ready_mono hr (Ne.symm hji)) (yieldsIf_weaken h3.1 (fun w2 hw2 => htrans _ _ _ hG hw2)) ?_⟩
      rw [Array.setIfInBounds_comm _ _ hji]
      exact h3.2.2
theorem sched_soundE {md : Region.Mode} (hmd : md = .any) (hrefl : ∀ w, G w w) (htrans : ∀ a b c, G a b → G b c → G a c) (hs : Region.noSelect ops = true) (hQ : ∀ c a w d v, Q (.panic c) (a.put d v) w → Q (.panic c) a w) (fuel : Nat) (listed' : Array Bool) :
    ∀ (s : List (Nat × Bool)) (listed : Array Bool) (a : Act) (w : World), Closed md ops listed → schedTo md ops s listed = some listed' →
      wpSched P ops Q G (fun a w => wpAnyE P md ops Q G fuel listed' a w) s a w → wpAnyE P md ops Q G (fuel + s.length) listed a w
  | [], listed, a, w, _, h, H => by
    simp only [schedTo, Option.some.injEq] at h
    subst h
    exact H
  | (i, b) :: r, listed, a, w, hcl, h, H => by
    obtain ⟨o, ho, H⟩ := H
    unfold schedTo at h
    split at h
    case isFalse => cases h
    rename_i hc
    have hfr : i ∈ Region.ready md ops listed ∧ Region.free md ops listed i = true ∧ (b = false → Region.ready md ops listed = [i]) := by
      cases b
      · simp only [cond_false, Bool.and_eq_true, beq_iff_eq] at hc
        exact ⟨by rw [hc.1]; simp, hc.2, fun _ => hc.1⟩
      · simp only [cond_true, Bool.and_eq_true] at hc
        exact ⟨by simpa using hc.1, hc.2, fun e => by cases e⟩
    obtain ⟨hr, hf, honly⟩ := hfr
    have ih := fun a w H => sched_soundE hmd hrefl htrans hs hQ fuel listed' r (listed.setIfInBounds i true) a w (hcl.set hr) h H
    show wpAnyE P md ops Q G ((fuel + r.length) + 1) listed a w
    rcases H with ⟨hw, H⟩ | ⟨hw, ⟨v, hv, H⟩ | ⟨hb, H⟩⟩
    · exact wpAnyE_first hrefl htrans ho (Region.noSelect_spec hs) (fun c a w => hQ c a w _ _) _ listed a w hcl (Region.free_spec ho hf) hr (.inr ⟨hw, rfl⟩) (ih _ _ H)
    · exact wpAnyE_first hrefl htrans ho (Region.noSelect_spec hs) (fun c a w => hQ c a w _ _) _ listed a w hcl (Region.free_spec ho hf) hr (.inl ⟨hw, hv⟩) (ih _ _ H)
    · refine ⟨fun h0 => absurd h0 (by rw [honly hb]; simp), fun j hj => ?_⟩
      rw [honly hb] at hj
      simp only [List.mem_singleton] at hj
      subst hj
      unfold wpOp
      simp only [ho, hw, if_true]
      exact .inl (Oper.wp_mono (fun a' w' h' => ⟨h'.1.imp id (fun he => by rw [hmd]; exact endsT_of_ends he), ih a' w' h'.2⟩) H)
/-- One order for all, the last one a store. -/
theorem wp_region_last {id : Nat} {a : Act} {w : World} (hm : P.follows .mixedOrders = true) (hrefl : ∀ w, G w w) (htrans : ∀ a b c, G a b → G b c → G a c) (hs : Region.noSelect ops = true)
    (s : List (Nat × Bool)) (j : Nat) (oj : Oper) (hj : ops[j]? = some oj) (l : Array Bool) (hsz : 1 + s.length = ops.size) (hto : schedTo .any ops s (Array.replicate ops.size false) = some l)
    (hr : Region.ready .any ops l = [j]) (hr2 : Region.ready .any ops (l.setIfInBounds j true) = []) (he : endsT .any ops j = true)
    (h : ∀ K : Act → World → Prop, Hid (∀ a w w', Region.wanted oj (yielded ops a.tmps) = true → (execOp a.eval oj).run P w = .ok .skip w' → Q .normal (a.put oj.dst undef) w' → K a w) → wpSched P ops (NoPanic Q) G K s a w.drew) : (Code.region id ops true).wp P Q a w := by
  refine wp_region_noPanic (wp_region_any hm (wpAny_of_E (G := G) _ _ _ _ ?_))
  have := sched_soundE (Q := NoPanic Q) rfl hrefl htrans hs (fun _ _ _ _ _ h => h) 1 l s (Array.replicate ops.size false) a w.drew (Closed.none _) hto (h _ ?_)
  · rw [hsz] at this
    exact this
  · intro a w w' hw hrun hq
    refine ⟨fun h0 => absurd h0 (by rw [hr]; simp), fun i hi => ?_⟩
    rw [hr] at hi
    simp only [List.mem_singleton] at hi
    subst hi
    unfold wpOp
    simp only [hj, hw, if_true]
    left
    unfold Oper.wp
    rw [hrun]
    exact ⟨.inr he, hr2, hq⟩
end
theorem hid_up {p : Prop} (h : p) : Hid p := h
/-- Several may come up. -/
theorem sched_fork {P : Program} {ops : Array Oper} {Q : Exit → Act → World → Prop} {md : Region.Mode} {G : World → World → Prop} {fuel : Nat} {listed : Array Bool} {a : Act} {w : World} (L : List Nat) (hr : Region.ready md ops listed = L) (hne : L.isEmpty = false)
    (h : ∀ i ∈ L, ∃ o, ops[i]? = some o ∧ Region.wanted o (yielded ops a.tmps) = true ∧ o.wp P a w (fun a' w' => G w w' ∧ wpAnyG P md ops Q G fuel (listed.setIfInBounds i true) a' w') Q) : wpAnyG P md ops Q G (fuel + 1) listed a w := by
  refine ⟨fun h0 => ?_, fun k hk => ?_⟩
  · rw [hr] at h0
    rw [h0] at hne
    cases hne
  · rw [hr] at hk
    obtain ⟨o, ho, hw, hwp⟩ := h k hk
    unfold wpOp
    simp only [ho, hw, if_true]
    exact .inl (Oper.wp_mono (fun a' w' h => ⟨.inl h.1, h.2⟩) hwp)
/-- A piece of code, and what comes behind it, parted. -/
theorem wp_cut {P : Program} {c : Code} {Q : Exit → Act → World → Prop} {a : Act} {w : World} (K : Act → World → Prop) (h : c.wp P (fun e a w => e = .normal ∧ K a w) a w) (hk : ∀ a w, K a w → Q .normal a w) : c.wp P Q a w :=
  Code.wp_mono (fun e a w h => by obtain ⟨he, hK⟩ := h; subst he; exact hk a w hK) h
end Go.Proofs.Ytejbhjcopldekaa
