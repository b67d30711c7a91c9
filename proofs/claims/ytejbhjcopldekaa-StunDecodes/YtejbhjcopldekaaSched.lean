/- A region that leaves its order open, where every operation lets what was there stand (a relation G on worlds, of which a growing memory is the use): an operation whose value is settled from now on may be taken first, so that one order serves for all. No program is named here. -/
import Derived.OrdersHeld
import Derived.Deep.RegionHeld3
import Derived.WalkKit
namespace Go.Proofs.Ytejbhjcopldekaa
set_option maxRecDepth 100000
open Go.RowKit

section
variable {P : Program} {ops : Array Oper} {Q : Exit → Act → World → Prop} {md : Region.Mode} {G : World → World → Prop}

/-- Does it wait for all the others? Then nothing comes behind it. -/
def endsB (md : Region.Mode) (ops : Array Oper) (i : Nat) : Bool :=
  match ops[i]? with
  | none => false
  | some o => (List.range ops.size).all fun k => k == i || o.after.any fun e => Region.binds md e && e.on == k
theorem ends_spec {listed : Array Bool} {i j : Nat} (h : endsB md ops j = true) (hj : j ∈ Region.ready md ops listed) (hi : i ∈ Region.ready md ops listed) (hij : j ≠ i) : False := by
  obtain ⟨_, oj, hoj, hall⟩ := mem_ready.1 hj
  obtain ⟨hiun, oi, hoi, _⟩ := mem_ready.1 hi
  simp only [endsB, hoj, List.all_eq_true, List.mem_range] at h
  have hlt : i < ops.size := (Array.getElem?_eq_some_iff.1 hoi).1
  have h1 := h i hlt
  simp only [Bool.or_eq_true, beq_iff_eq] at h1
  rcases h1 with h1 | h1
  · exact hij h1.symm
  · obtain ⟨q, hq, hb, hon⟩ : ∃ (q : Nat) (hq : q < oj.after.size), Region.binds md oj.after[q] = true ∧ oj.after[q].on = i := by simpa using h1
    have h2 := hall _ (Array.getElem_mem hq) hb
    rw [hon] at h2
    rcases Nat.lt_or_ge i listed.size with h' | h'
    · simp [h'] at hiun h2; rw [hiun] at h2; cases h2
    · simp [Array.getElem?_eq_none h'] at h2

/-- Whatever order is picked from here on, each step being one of G. -/
def wpAnyG (P : Program) (md : Region.Mode) (ops : Array Oper) (Q : Exit → Act → World → Prop) (G : World → World → Prop) : Nat → Array Bool → Act → World → Prop
  | 0, listed, a, w => Region.ready md ops listed = [] ∧ Q .normal a w
  | fuel + 1, listed, a, w =>
    (Region.ready md ops listed = [] → Q .normal a w) ∧
    ∀ i ∈ Region.ready md ops listed, wpOp P ops Q i (fun a' w' => (G w w' ∨ endsB md ops i = true) ∧ wpAnyG P md ops Q G fuel (listed.setIfInBounds i true) a' w') a w
theorem wpAny_of_G : ∀ (fuel : Nat) (listed : Array Bool) (a : Act) (w : World), wpAnyG P md ops Q G fuel listed a w → wpAny P md ops Q fuel listed a w
  | 0, _, _, _, h => h
  | fuel + 1, _, _, _, h => ⟨h.1, fun i hi => wpOp_mono (fun a' w' h' => wpAny_of_G fuel _ a' w' h'.2) (h.2 i hi)⟩
theorem yieldsIf_weaken {S S' : World → Prop} {o : Oper} {v : Value} {a : Act} (h : YieldsIf P ops S o v a) (hs : ∀ w, S' w → S w) : YieldsIf P ops S' o v a := by
  rcases h with ⟨h1, h2⟩ | h
  · exact .inl ⟨h1, fun w hw => h2 w (hs w hw)⟩
  · exact .inr h
theorem wpAnyG_first (hrefl : ∀ w, G w w) (htrans : ∀ a b c, G a b → G b c → G a c) {i : Nat} {oi : Oper} {v : Value} (hi : ops[i]? = some oi) (hsel : ∀ (j : Nat) (o : Oper) cs b, ops[j]? = some o → o.op ≠ .select cs b)
    (hQ : ∀ c a w, Q (.panic c) (a.put oi.dst v) w → Q (.panic c) a w) :
    ∀ (fuel : Nat) (listed : Array Bool) (a : Act) (w : World),
      (∀ j oj, ops[j]? = some oj → j ≠ i → listed.getD j true = false → (∀ e ∈ oj.after, Region.binds md e = true → e.on ≠ i) → oi.apart ops oj = true) →
      i ∈ Region.ready md ops listed → YieldsIf P ops (G w) oi v a →
      wpAnyG P md ops Q G fuel (listed.setIfInBounds i true) (a.put oi.dst v) w → wpAnyG P md ops Q G (fuel + 1) listed a w := by
  intro fuel
  induction fuel with
  | zero =>
    intro listed a w _ hr hy H
    refine ⟨fun h => (by rw [h] at hr; cases hr), fun j hj => ?_⟩
    by_cases hji : j = i
    · subst hji; exact hy.wpOp hi (hrefl w) ⟨.inl (hrefl w), H⟩
    · have := ready_mono hj hji
      rw [H.1] at this
      cases this
  | succ fuel ih =>
    intro listed a w hfree hr hy H
    refine ⟨fun h => (by rw [h] at hr; cases hr), fun j hj => ?_⟩
    by_cases hji : j = i
    · subst hji; exact hy.wpOp hi (hrefl w) ⟨.inl (hrefl w), H⟩
    · have h1 := H.2 j (ready_mono hj hji)
      obtain ⟨hjun, oj, hoj, hall⟩ := mem_ready.1 hj
      have hnot : ∀ e ∈ oj.after, Region.binds md e = true → e.on ≠ i := fun e he hb heq => by
        have h1 := hall e he hb
        have h0 := (mem_ready.1 hr).1
        rw [heq] at h1
        rcases Nat.lt_or_ge i listed.size with h' | h'
        · simp [h'] at h0 h1; rw [h0] at h1; cases h1
        · simp [Array.getElem?_eq_none h'] at h1
      have h2 := wpOp_putIf hoj (hfree j oj hoj hji hjun hnot) (fun cs b => hsel i oi cs b hi) (fun cs b => hsel j oj cs b hoj) hQ hy h1
      have hfree' : ∀ k ok, ops[k]? = some ok → k ≠ i → (listed.setIfInBounds j true).getD k true = false →
          (∀ e ∈ ok.after, Region.binds md e = true → e.on ≠ i) → oi.apart ops ok = true := fun k ok hk hki hun hno => by
        refine hfree k ok hk hki ?_ hno
        by_cases hjk : j = k
        · subst hjk; exact hjun
        · rw [getD_set_ne true hjk] at hun; exact hun
      refine wpOp_mono (fun a' w' h3 => ?_) h2
      have hG : G w w' := h3.2.1.resolve_right (fun he => ends_spec he hj hr hji)
      refine ⟨.inl hG, ih (listed.setIfInBounds j true) a' w' hfree' (ready_mono hr (Ne.symm hji)) (yieldsIf_weaken h3.1 (fun w2 hw2 => htrans _ _ _ hG hw2)) ?_⟩
      rw [Array.setIfInBounds_comm _ _ hji]
      exact h3.2.2

/-- One order for all: number i, taken first (true), or the only one that may come up (false). -/
def wpSched (P : Program) (ops : Array Oper) (Q : Exit → Act → World → Prop) (G : World → World → Prop) (K : Act → World → Prop) : List (Nat × Bool) → Act → World → Prop
  | [], a, w => K a w
  | (i, b) :: r, a, w => ∃ o, ops[i]? = some o ∧
    ((Region.wanted o (yielded ops a.tmps) = false ∧ wpSched P ops Q G K r (a.put o.dst undef) w) ∨
     (Region.wanted o (yielded ops a.tmps) = true ∧
       ((∃ v, (∀ w', G w w' → (execOp a.eval o).run P w' = .ok (.value v) w') ∧ wpSched P ops Q G K r (a.put o.dst v) w) ∨
        (b = false ∧ o.wp P a w (fun a' w' => (G w w' ∨ endsB .any ops i = true) ∧ wpSched P ops Q G K r a' w') Q))))
/-- Which have come up behind such an order, if it is one. -/
def schedTo (md : Region.Mode) (ops : Array Oper) : List (Nat × Bool) → Array Bool → Option (Array Bool)
  | [], listed => some listed
  | (i, b) :: r, listed => if (bif b then (Region.ready md ops listed).contains i && Region.free md ops listed i else Region.ready md ops listed == [i] && Region.free md ops listed i) then schedTo md ops r (listed.setIfInBounds i true) else none

theorem sched_sound {md : Region.Mode} (hmd : md = .any) (hrefl : ∀ w, G w w) (htrans : ∀ a b c, G a b → G b c → G a c) (hs : Region.noSelect ops = true) (hQ : ∀ c a w d v, Q (.panic c) (a.put d v) w → Q (.panic c) a w) (fuel : Nat) (listed' : Array Bool) :
    ∀ (s : List (Nat × Bool)) (listed : Array Bool) (a : Act) (w : World), schedTo md ops s listed = some listed' →
      wpSched P ops Q G (fun a w => wpAnyG P md ops Q G fuel listed' a w) s a w → wpAnyG P md ops Q G (fuel + s.length) listed a w
  | [], listed, a, w, h, H => by
    simp only [schedTo, Option.some.injEq] at h
    subst h
    exact H
  | (i, b) :: r, listed, a, w, h, H => by
    obtain ⟨o, ho, H⟩ := H
    unfold schedTo at h
    split at h
    case isFalse => cases h
    rename_i hc
    have hfr : i ∈ Region.ready md ops listed ∧ Region.free md ops listed i = true ∧ (b = false → Region.ready md ops listed = [i]) := by
      cases b
      · simp only [cond_false, Bool.and_eq_true, beq_iff_eq] at hc
        exact ⟨by rw [hc.1]; simp, hc.2, fun _ => hc.1⟩
      · simp only [cond_true, Bool.and_eq_true] at hc
        exact ⟨by simpa using hc.1, hc.2, fun e => by cases e⟩
    obtain ⟨hr, hf, honly⟩ := hfr
    have ih := fun a w H => sched_sound hmd hrefl htrans hs hQ fuel listed' r (listed.setIfInBounds i true) a w h H
    show wpAnyG P md ops Q G ((fuel + r.length) + 1) listed a w
    rcases H with ⟨hw, H⟩ | ⟨hw, ⟨v, hv, H⟩ | ⟨hb, H⟩⟩
    · exact wpAnyG_first hrefl htrans ho (Region.noSelect_spec hs) (fun c a w => hQ c a w _ _) _ listed a w (Region.free_spec ho hf) hr (.inr ⟨hw, rfl⟩) (ih _ _ H)
    · exact wpAnyG_first hrefl htrans ho (Region.noSelect_spec hs) (fun c a w => hQ c a w _ _) _ listed a w (Region.free_spec ho hf) hr (.inl ⟨hw, hv⟩) (ih _ _ H)
    · refine ⟨fun h0 => absurd h0 (by rw [honly hb]; simp), fun j hj => ?_⟩
      rw [honly hb] at hj
      simp only [List.mem_singleton] at hj
      subst hj
      unfold wpOp
      simp only [ho, hw, if_true]
      exact .inl (Oper.wp_mono (fun a' w' h' => ⟨by rw [hmd]; exact h'.1, ih a' w' h'.2⟩) H)

/-- The beginning: one order for the whole region. -/
theorem wp_region_sched {id : Nat} {a : Act} {w : World} (hm : P.follows .mixedOrders = true) (hrefl : ∀ w, G w w) (htrans : ∀ a b c, G a b → G b c → G a c) (hs : Region.noSelect ops = true)
    (hQ : ∀ c a w d v, Q (.panic c) (a.put d v) w → Q (.panic c) a w) (s : List (Nat × Bool)) (hsz : s.length = ops.size)
    (hto : ((schedTo .any ops s (Array.replicate ops.size false)).map fun l => (Region.ready .any ops l).isEmpty) = some true)
    (h : wpSched P ops Q G (fun a w => Q .normal a w) s a { w with drawn := w.drawn + 1 }) : (Code.region id ops true).wp P Q a w := by
  cases hx : schedTo .any ops s (Array.replicate ops.size false) with
  | none => rw [hx] at hto; cases hto
  | some l =>
    rw [hx] at hto
    have hready : Region.ready .any ops l = [] := by simpa using hto
    have hK : ∀ a w, Q .normal a w → wpAnyG P .any ops Q G 0 l a w := fun a w hq => ⟨hready, hq⟩
    have hmono : ∀ (s : List (Nat × Bool)) a w, wpSched P ops Q G (fun a w => Q .normal a w) s a w → wpSched P ops Q G (fun a w => wpAnyG P .any ops Q G 0 l a w) s a w := by
      intro s
      induction s with
      | nil => intro a w h; exact hK a w h
      | cons x r ih =>
        intro a w ⟨o, ho, H⟩
        refine ⟨o, ho, ?_⟩
        rcases H with ⟨hw, H⟩ | ⟨hw, ⟨v, hv, H⟩ | ⟨hb, H⟩⟩
        · exact .inl ⟨hw, ih _ _ H⟩
        · exact .inr ⟨hw, .inl ⟨v, hv, ih _ _ H⟩⟩
        · exact .inr ⟨hw, .inr ⟨hb, Oper.wp_mono (fun a' w' h' => ⟨h'.1, ih _ _ h'.2⟩) H⟩⟩
    have := sched_sound rfl hrefl htrans hs hQ 0 l s (Array.replicate ops.size false) a _ hx (hmono s a _ h)
    rw [Nat.zero_add, hsz] at this
    exact wp_region_any hm (wpAny_of_G _ _ _ _ this)

/-- The same, where nothing of it panics. -/
theorem wp_region_sched' {id : Nat} {a : Act} {w : World} (hm : P.follows .mixedOrders = true) (hrefl : ∀ w, G w w) (htrans : ∀ a b c, G a b → G b c → G a c) (hs : Region.noSelect ops = true)
    (s : List (Nat × Bool)) (hsz : s.length = ops.size)
    (hto : ((schedTo .any ops s (Array.replicate ops.size false)).map fun l => (Region.ready .any ops l).isEmpty) = some true)
    (h : ∀ K : Act → World → Prop, Hid (∀ a w, Q .normal a w → K a w) → wpSched P ops (NoPanic Q) G K s a w.drew) : (Code.region id ops true).wp P Q a w :=
  wp_region_noPanic (wp_region_sched hm hrefl htrans hs (fun _ _ _ _ _ h => h) s hsz hto (h _ (fun _ _ h => h)))

theorem wpSched_mono {K K' : Act → World → Prop} (h : ∀ a w, K a w → K' a w) : ∀ (s : List (Nat × Bool)) a w, wpSched P ops Q G K s a w → wpSched P ops Q G K' s a w := by
  intro s
  induction s with
  | nil => intro a w H; exact h a w H
  | cons x r ih =>
    intro a w ⟨o, ho, H⟩
    refine ⟨o, ho, ?_⟩
    rcases H with ⟨hw, H⟩ | ⟨hw, ⟨v, hv, H⟩ | ⟨hb, H⟩⟩
    · exact .inl ⟨hw, ih _ _ H⟩
    · exact .inr ⟨hw, .inl ⟨v, hv, ih _ _ H⟩⟩
    · exact .inr ⟨hw, .inr ⟨hb, Oper.wp_mono (fun a' w' h' => ⟨h'.1, ih _ _ h'.2⟩) H⟩⟩
/-- The beginning of an order, up to where two may come up. -/
theorem sched_begin {id : Nat} {a : Act} {w : World} (hm : P.follows .mixedOrders = true) (hrefl : ∀ w, G w w) (htrans : ∀ a b c, G a b → G b c → G a c) (hs : Region.noSelect ops = true)
    (s : List (Nat × Bool)) (fuel : Nat) (listed' : Array Bool) (hsz : fuel + s.length = ops.size) (hto : schedTo .any ops s (Array.replicate ops.size false) = some listed')
    (h : ∀ K : Act → World → Prop, Hid (∀ a w, wpAnyG P .any ops (NoPanic Q) G fuel listed' a w → K a w) → wpSched P ops (NoPanic Q) G K s a w.drew) : (Code.region id ops true).wp P Q a w := by
  refine wp_region_noPanic (wp_region_any hm (wpAny_of_G (G := G) _ _ _ _ ?_))
  have := sched_sound (Q := NoPanic Q) rfl hrefl htrans hs (fun _ _ _ _ _ h => h) fuel listed' s (Array.replicate ops.size false) a w.drew hto (h _ (fun _ _ h => h))
  rw [hsz] at this
  exact this
/-- The rest of an order. -/
theorem sched_end {fuel : Nat} {listed : Array Bool} {a : Act} {w : World} (hrefl : ∀ w, G w w) (htrans : ∀ a b c, G a b → G b c → G a c) (hs : Region.noSelect ops = true)
    (s : List (Nat × Bool)) (hsz : s.length = fuel) (hto : ((schedTo .any ops s listed).map fun l => (Region.ready .any ops l).isEmpty) = some true)
    (h : ∀ K : Act → World → Prop, Hid (∀ a w, Q .normal a w → K a w) → wpSched P ops (NoPanic Q) G K s a w) : wpAnyG P .any ops (NoPanic Q) G fuel listed a w := by
  cases hx : schedTo .any ops s listed with
  | none => rw [hx] at hto; cases hto
  | some l =>
    rw [hx] at hto
    have hready : Region.ready .any ops l = [] := by simpa using hto
    have := sched_sound (Q := NoPanic Q) rfl hrefl htrans hs (fun _ _ _ _ _ h => h) 0 l s listed a w hx (wpSched_mono (fun a w hq => ⟨hready, hq⟩) s a w (h (fun a w => Q .normal a w) (fun _ _ h => h)))
    rw [Nat.zero_add, hsz] at this
    exact this
/-- Two may come up. -/
theorem sched_two {md : Region.Mode} {fuel i j : Nat} {listed : Array Bool} {oi oj : Oper} {a : Act} {w : World} (hr : Region.ready md ops listed = [i, j]) (hi : ops[i]? = some oi) (hwi : Region.wanted oi (yielded ops a.tmps) = true)
    (hj : ops[j]? = some oj) (hwj : Region.wanted oj (yielded ops a.tmps) = true)
    (hI : oi.wp P a w (fun a' w' => G w w' ∧ wpAnyG P md ops Q G fuel (listed.setIfInBounds i true) a' w') Q) (hJ : oj.wp P a w (fun a' w' => G w w' ∧ wpAnyG P md ops Q G fuel (listed.setIfInBounds j true) a' w') Q) :
    wpAnyG P md ops Q G (fuel + 1) listed a w := by
  refine ⟨fun h => (by rw [hr] at h; cases h), fun k hk => ?_⟩
  rw [hr] at hk
  simp only [List.mem_cons, List.not_mem_nil, or_false] at hk
  rcases hk with rfl | rfl
  · unfold wpOp
    simp only [hi, hwi, if_true]
    exact .inl (Oper.wp_mono (fun a' w' h => ⟨.inl h.1, h.2⟩) hI)
  · unfold wpOp
    simp only [hj, hwj, if_true]
    exact .inl (Oper.wp_mono (fun a' w' h => ⟨.inl h.1, h.2⟩) hJ)
theorem oper_call {o : Oper} {a : Act} {w : World} {K : Act → World → Prop} {f : FuncId} {args : Array Value} (hrun : (execOp a.eval o).run P w = .ok (.enter f args) w)
    (hc : Calls P f args w fun e w' => ∃ v, e = .returned v ∧ K (a.put o.dst v) w') : o.wp P a w K Q := by
  unfold Oper.wp
  rw [hrun]
  simp only [Oper.upon]
  refine hc.mono ?_
  rintro e w' ⟨v, rfl, h⟩
  exact h
theorem oper_val {o : Oper} {a : Act} {w w' : World} {K : Act → World → Prop} {v : Value} (hrun : (execOp a.eval o).run P w = .ok (.value v) w') (h : K (a.put o.dst v) w') : o.wp P a w K Q := by
  unfold Oper.wp
  rw [hrun]
  exact h

/-! The steps. -/
variable {K : Act → World → Prop} {r : List (Nat × Bool)} {i : Nat} {b : Bool} {o : Oper} {a : Act} {w : World}
theorem sched_skip (ho : ops[i]? = some o) (hw : Region.wanted o (yielded ops a.tmps) = false) (h : wpSched P ops Q G K r (a.put o.dst undef) w) : wpSched P ops Q G K ((i, b) :: r) a w := ⟨o, ho, .inl ⟨hw, h⟩⟩
theorem sched_take {v : Value} (ho : ops[i]? = some o) (hw : Region.wanted o (yielded ops a.tmps) = true) (hv : ∀ w', G w w' → (execOp a.eval o).run P w' = .ok (.value v) w') (h : wpSched P ops Q G K r (a.put o.dst v) w) :
    wpSched P ops Q G K ((i, b) :: r) a w := ⟨o, ho, .inr ⟨hw, .inl ⟨v, hv, h⟩⟩⟩
theorem sched_call {f : FuncId} {args : Array Value} (ho : ops[i]? = some o) (hw : Region.wanted o (yielded ops a.tmps) = true) (hrun : (execOp a.eval o).run P w = .ok (.enter f args) w)
    (hc : Calls P f args w fun e w' => ∃ v, e = .returned v ∧ G w w' ∧ wpSched P ops Q G K r (a.put o.dst v) w') : wpSched P ops Q G K ((i, false) :: r) a w := by
  refine ⟨o, ho, .inr ⟨hw, .inr ⟨rfl, ?_⟩⟩⟩
  unfold Oper.wp
  rw [hrun]
  simp only [Oper.upon]
  refine hc.mono ?_
  rintro e w' ⟨v, rfl, hG, h⟩
  exact ⟨.inl hG, h⟩
theorem sched_val {v : Value} {w' : World} (ho : ops[i]? = some o) (hw : Region.wanted o (yielded ops a.tmps) = true) (hrun : (execOp a.eval o).run P w = .ok (.value v) w') (hG : G w w') (h : wpSched P ops Q G K r (a.put o.dst v) w') :
    wpSched P ops Q G K ((i, false) :: r) a w := by
  refine ⟨o, ho, .inr ⟨hw, .inr ⟨rfl, ?_⟩⟩⟩
  unfold Oper.wp
  rw [hrun]
  exact ⟨.inl hG, h⟩
/-- A store that waits for all the others. -/
theorem sched_store {w' : World} (ho : ops[i]? = some o) (hw : Region.wanted o (yielded ops a.tmps) = true) (hrun : (execOp a.eval o).run P w = .ok .skip w') (he : endsB .any ops i = true) (h : wpSched P ops Q G K r (a.put o.dst undef) w') :
    wpSched P ops Q G K ((i, false) :: r) a w := by
  refine ⟨o, ho, .inr ⟨hw, .inr ⟨rfl, ?_⟩⟩⟩
  unfold Oper.wp
  rw [hrun]
  exact ⟨.inr he, h⟩
theorem sched_append {s x : Operand} {t : TypeId} {vs vx v : Value} {w2 : World} (ho : ops[i]? = some o) (hw : Region.wanted o (yielded ops a.tmps) = true)
    (hop : o.op = .call { callee := .builtin .append, args := #[s, x], argTypes := #[t, t] }) (hs : a.eval s = vs) (hx : a.eval x = vx)
    (hr : (Builtin.append_ #[t, t] o.type #[vs, vx]).run P w = .ok v w2) (hG : G w w2) (h : wpSched P ops Q G K r (a.put o.dst v) w2) :
    wpSched P ops Q G K ((i, false) :: r) a w := by
  refine sched_val ho hw ?_ hG h
  unfold execOp
  simp only [hop, resolve, invoke, builtin, Sem.run_bind, Sem.run_pure, Result.andThen_ok, List.map_toArray, List.map_cons, List.map_nil, hs, hx, hr]
theorem sched_done {Q' : Exit → Act → World → Prop} (hK : Hid (∀ a w, Q' .normal a w → K a w)) (h : Q' .normal a w) : wpSched P ops Q G K [] a w := hK.out a w h
end
end Go.Proofs.Ytejbhjcopldekaa
