/- The same for places of keys (api.Key). Written by tools/mkkeys.py out of SchedF. -/
import Derived.Test.YtmdoojfcgbokjaaDoorSchedF
import Derived.Test.YtmdoojfcgbokjaaDoorArrB
namespace Go.Proofs.YtmdoojfcgbokjaaDoor
set_option linter.unusedVariables false
open Go.RowKit

/-- The cells of a key (the number beside them is no matter). -/
structure KeyC (c : List Value) (n : Nat) : Prop where
  len : c.length = 32
  one : ∀ v ∈ c, v.oneCell' = true
theorem KeyC.of (l : List UInt8) (h : l.length = 32) : KeyC (l.map bv) 0 := ⟨by rw [List.length_map, h], bv_oneCell l⟩
def zeroKc : List Value := (List.replicate 32 (0 : UInt8)).map bv
theorem zeroKc_len : zeroKc.length = 32 := by decide
def CelK (W : World) (g : Nat) (vs : List Value) : Prop := W.heap[g]? = some (.cells vs.toArray 23 (0, 0))
theorem CelK.lt {w : World} {g : Nat} {l : List Value} (h : CelK w g l) : g < w.heap.size := (Array.getElem?_eq_some_iff.1 h).1
theorem CelK.later {w w' : World} {g : Nat} {l : List Value} (h : CelK w g l) (hb : Below w.heap.size w w') : CelK w' g l := by
  unfold CelK
  rw [hb.block g h.lt]
  exact h
theorem CelK.put_other {w : World} {g g' : Nat} {l : List Value} (h : CelK w g l) (hne : g ≠ g') (cs : Array Value) : CelK (w.setRow g' cs) g l := by
  unfold CelK
  rw [setRow_other _ _ _ _ hne]
  exact h
theorem CelK.new (w : World) (l : List Value) : CelK (w.alloc (.cells l.toArray 23)) w.heap.size l := heap_alloc_new w _
theorem exec_placeK {ev : Operand → Value} {o : Oper} {w : World} (ho : o.op = .alloc 23) :
    (execOp ev o).run Tryd.prog w = .ok (.value (.pointer (some ⟨w.heap.size, 0, none⟩))) (w.alloc (.cells zeroKc.toArray 23)) := by
  unfold execOp
  simp only [ho]
  go_simp
  rfl
theorem exec_intoK {ev : Operand → Value} {o : Oper} {w : World} {x y : Operand} {g : Nat} {c c0 : List Value} {n : Nat} (ho : o.op = .store 23 x y) (hx : ev x = .pointer (some ⟨g, 0, none⟩)) (hy : ev y = .agg c.toArray) (hE : KeyC c n) (hl : c0.length = 32) (hc : CelK w g c0) :
    (execOp ev o).run Tryd.prog w = .ok .skip (w.setRow g c.toArray) := by
  have hst := store_row w g _ _ c hc (by rw [hE.len]; simp [hl]) hE.one
  have hlen := hE.len
  have hu := Tryd.underlying23
  unfold execOp
  simp only [ho, hx, hy]
  go_simp
theorem wpList_intoK {ops : Array Oper} {rest : List Oper} {o : Oper} {a : Act} {w : World} {Q : Exit → Act → World → Prop} {x y : Operand} {g : Nat} {c c0 : List Value} {n : Nat} (hgd : o.guard = none) (ho : o.op = .store 23 x y) (hdst : o.dst = none) (hx : a.eval x = .pointer (some ⟨g, 0, none⟩)) (hy : a.eval y = .agg c.toArray) (hE : KeyC c n) (hl : c0.length = 32) (hc : CelK w g c0)
    (h : wpList Tryd.prog ops Q rest a (w.setRow g c.toArray)) : wpList Tryd.prog ops Q (o :: rest) a w := by
  refine wpList_plain hgd fun K hK => ?_
  unfold Oper.wp
  rw [exec_intoK ho hx hy hE hl hc]
  show K (a.put o.dst undef) _
  rw [hdst]
  exact hK _ _ h
/-- How places and stores go together: op p makes a place, op 'so p' stores there what op 'vq p' left. -/
structure PlcK (ops : Array Oper) (m sz : Nat) (als : List Nat) (so vq : Nat → Nat) : Prop where
  mak : ∀ p ∈ als, p < m ∧ ∃ o, ops[p]? = some o ∧ o.op = .alloc 23 ∧ o.guard = none
  st : ∀ p ∈ als, so p < m ∧ vq p < m ∧ so p ∉ als ∧ vq p ∉ als ∧ ∃ o x y, ops[so p]? = some o ∧ o.op = .store 23 (.tmp x) (.tmp y) ∧ o.guard = none ∧ dstOf ops p = some x ∧ dstOf ops (vq p) = some y ∧ x < sz ∧ y < sz ∧
    (∃ e ∈ o.after, Region.binds .any e = true ∧ e.on = p) ∧ (∃ e ∈ o.after, Region.binds .any e = true ∧ e.on = vq p)
  one : ∀ p ∈ als, ∀ q ∈ als, so p = so q → p = q
  vs : ∀ p ∈ als, ∀ q ∈ als, vq p ≠ so q
theorem none_storesK {ops : Array Oper} {m sz : Nat} {so vq : Nat → Nat} : PlcK ops m sz [] so vq := ⟨fun p h => (by cases h), fun p h => (by cases h), fun p h => (by cases h), fun p h => (by cases h)⟩
def plcBK (ops : Array Oper) (m sz : Nat) (als : List Nat) (so vq : Nat → Nat) : Bool :=
  als.all fun p => decide (p < m) && (match ops[p]? with | some o => (match o.op with | .alloc t => t == 23 | _ => false) && o.guard == none | none => false) && decide (so p < m) && decide (vq p < m) && !als.contains (so p) && !als.contains (vq p) &&
    (match ops[so p]? with
      | some o => (match o.op with
        | .store t (.tmp x) (.tmp y) => t == 23 && o.guard == none && dstOf ops p == some x && dstOf ops (vq p) == some y && decide (x < sz) && decide (y < sz) && (o.after.any fun e => Region.binds .any e && e.on == p) && (o.after.any fun e => Region.binds .any e && e.on == vq p)
        | _ => false)
      | none => false) && als.all fun q => (so p != so q || p == q) && vq p != so q
theorem plc_ofK {ops : Array Oper} {m sz : Nat} {als : List Nat} {so vq : Nat → Nat} (h : plcBK ops m sz als so vq = true) : PlcK ops m sz als so vq := by
  unfold plcBK at h
  rw [List.all_eq_true] at h
  have h' : ∀ p ∈ als, _ := fun p hp => by
    have := h p hp
    simp only [Bool.and_eq_true] at this
    exact this
  refine ⟨fun p hp => ?_, fun p hp => ?_, fun p hp q hq e => ?_, fun p hp q hq => ?_⟩
  · obtain ⟨⟨⟨⟨⟨⟨⟨h1, h2⟩, h3⟩, h4⟩, h5⟩, h6⟩, h7⟩, h8⟩ := h' p hp
    refine ⟨of_decide_eq_true h1, ?_⟩
    split at h2
    · rename_i o ho
      obtain ⟨h9, h10⟩ := Bool.and_eq_true_iff.1 h2
      split at h9
      · rename_i t hop
        refine ⟨o, ho, ?_, by simpa using h10⟩
        rw [hop]
        congr 1
        simpa using h9
      · cases h9
    · cases h2
  · obtain ⟨⟨⟨⟨⟨⟨⟨h1, h2⟩, h3⟩, h4⟩, h5⟩, h6⟩, h7⟩, h8⟩ := h' p hp
    refine ⟨of_decide_eq_true h3, of_decide_eq_true h4, by simpa using h5, by simpa using h6, ?_⟩
    split at h7
    · rename_i o ho
      split at h7
      · rename_i t x y hop
        simp only [Bool.and_eq_true] at h7
        obtain ⟨⟨⟨⟨⟨⟨⟨k1, k2⟩, k3⟩, k4⟩, k5⟩, k6⟩, k7⟩, k8⟩ := h7
        refine ⟨o, x, y, ho, ?_, by simpa using k2, by simpa using k3, by simpa using k4, of_decide_eq_true k5, of_decide_eq_true k6, after_has k7, after_has k8⟩
        rw [hop]
        congr 1
        simpa using k1
      · cases h7
    · cases h7
  · obtain ⟨⟨⟨⟨⟨⟨⟨h1, h2⟩, h3⟩, h4⟩, h5⟩, h6⟩, h7⟩, h8⟩ := h' p hp
    rw [List.all_eq_true] at h8
    have h9 := h8 q hq
    simp only [Bool.and_eq_true, Bool.or_eq_true, bne_iff_ne, beq_iff_eq] at h9
    rcases h9.1 with h10 | h10
    · exact absurd e h10
    · exact h10
  · obtain ⟨⟨⟨⟨⟨⟨⟨h1, h2⟩, h3⟩, h4⟩, h5⟩, h6⟩, h7⟩, h8⟩ := h' p hp
    rw [List.all_eq_true] at h8
    have h9 := h8 q hq
    simp only [Bool.and_eq_true, bne_iff_ne] at h9
    exact h9.2
/-- What is known wherever the region stands. -/
structure KnowsK (w0 : World) (m : Nat) (als : List Nat) (so vq : Nat → Nat) (Sp : Nat → Value → Prop) (g : Nat → Nat) (d : Nat → Bool) (v : Nat → Value) (W : World) : Prop where
  bel : Below w0.heap.size w0 W
  val : ∀ j, j ∉ als → j ∉ als.map so → d j = true → j < m → Sp j (v j)
  ptr : ∀ p ∈ als, d p = true → v p = .pointer (some ⟨g p, 0, none⟩) ∧ w0.heap.size ≤ g p
  zer : ∀ p ∈ als, d p = true → d (so p) = false → CelK W (g p) zeroKc
  ful : ∀ p ∈ als, d (so p) = true → d p = true ∧ d (vq p) = true ∧ ∃ c n, v (vq p) = .agg c.toArray ∧ KeyC c n ∧ CelK W (g p) c
  dis : ∀ p ∈ als, ∀ q ∈ als, d p = true → d q = true → p ≠ q → g p ≠ g q
theorem KnowsK.old {w0 : World} {m : Nat} {als : List Nat} {so vq : Nat → Nat} {Sp : Nat → Value → Prop} {g : Nat → Nat} {d : Nat → Bool} {v : Nat → Value} {W : World} (k : KnowsK w0 m als so vq Sp g d v W) : ∀ p ∈ als, d p = true → g p < W.heap.size := fun p hp hd => by
  cases hs : d (so p) with
  | false => exact (k.zer p hp hd hs).lt
  | true =>
    obtain ⟨_, _, c, n, _, _, hc⟩ := k.ful p hp hs
    exact hc.lt
theorem KnowsK.value {ops : Array Oper} {w0 : World} {m sz : Nat} {als : List Nat} {so vq : Nat → Nat} {Sp : Nat → Value → Prop} {g : Nat → Nat} {d : Nat → Bool} {v : Nat → Value} {W W' : World} (k : KnowsK w0 m als so vq Sp g d v W) (P : PlcK ops m sz als so vq) {i : Nat} (hi : i ∉ als) (hs : i ∉ als.map so) (hd : d i = false) {x : Value} (hx : Sp i x) (hb : Below W.heap.size W W') :
    KnowsK w0 m als so vq Sp g (also d i) (upd v i x) W' := by
  have na : ∀ p ∈ als, p ≠ i := fun p hp e => hi (by rw [← e]; exact hp)
  have ns : ∀ p ∈ als, so p ≠ i := fun p hp e => hs (by rw [← e]; exact List.mem_map_of_mem hp)
  refine ⟨k.bel.trans (hb.mono k.bel.size), ?_, ?_, ?_, ?_, ?_⟩
  · intro j h1 h2 h3 h4
    by_cases e : j = i
    · subst e; rw [upd_eq]; exact hx
    · rw [upd_ne e]; rw [also_ne e] at h3; exact k.val j h1 h2 h3 h4
  · intro p hp hdp
    rw [also_ne (na p hp)] at hdp
    rw [upd_ne (na p hp)]
    exact k.ptr p hp hdp
  · intro p hp hdp hds
    rw [also_ne (na p hp)] at hdp
    rw [also_ne (ns p hp)] at hds
    exact (k.zer p hp hdp hds).later hb
  · intro p hp hds
    rw [also_ne (ns p hp)] at hds
    obtain ⟨h1, h2, c, n, h3, h4, h5⟩ := k.ful p hp hds
    have hq : vq p ≠ i := fun e => by rw [e, hd] at h2; cases h2
    rw [also_ne (na p hp), also_ne hq, upd_ne hq]
    exact ⟨h1, h2, c, n, h3, h4, h5.later hb⟩
  · intro p hp q hq hdp hdq
    rw [also_ne (na p hp)] at hdp
    rw [also_ne (na q hq)] at hdq
    exact k.dis p hp q hq hdp hdq
theorem KnowsK.place {ops : Array Oper} {w0 : World} {m sz : Nat} {als : List Nat} {so vq : Nat → Nat} {Sp : Nat → Value → Prop} {g : Nat → Nat} {d : Nat → Bool} {v : Nat → Value} {W : World} (k : KnowsK w0 m als so vq Sp g d v W) (P : PlcK ops m sz als so vq) {i : Nat} (hi : i ∈ als) (hd : d i = false) :
    KnowsK w0 m als so vq Sp (fun j => if j = i then W.heap.size else g j) (also d i) (upd v i (.pointer (some ⟨W.heap.size, 0, none⟩))) (W.alloc (.cells zeroKc.toArray 23)) := by
  have hb : Below W.heap.size W (W.alloc (.cells zeroKc.toArray 23)) := (Below.refl _ _).alloc (Nat.le_refl _) _
  have ns : ∀ p ∈ als, so p ≠ i := fun p hp e => (P.st p hp).2.2.1 (by rw [e]; exact hi)
  have nv : ∀ p ∈ als, vq p ≠ i := fun p hp e => (P.st p hp).2.2.2.1 (by rw [e]; exact hi)
  have hdsi : d (so i) = false := by
    cases h : d (so i) with
    | false => rfl
    | true =>
      have := (k.ful i hi h).1
      rw [hd] at this
      cases this
  refine ⟨k.bel.trans (hb.mono k.bel.size), ?_, ?_, ?_, ?_, ?_⟩
  · intro j h1 h2 h3 h4
    have e : j ≠ i := fun e => h1 (by rw [e]; exact hi)
    rw [upd_ne e]; rw [also_ne e] at h3; exact k.val j h1 h2 h3 h4
  · intro p hp hdp
    by_cases e : p = i
    · subst e
      simp only [upd_eq, if_true]
      exact ⟨by first | rfl | trivial, k.bel.size⟩
    · rw [also_ne e] at hdp
      simp only [upd_ne e, e, if_false]
      exact k.ptr p hp hdp
  · intro p hp hdp hds
    rw [also_ne (ns p hp)] at hds
    by_cases e : p = i
    · subst e
      simp only [if_true]
      exact CelK.new W zeroKc
    · rw [also_ne e] at hdp
      simp only [e, if_false]
      exact (k.zer p hp hdp hds).later hb
  · intro p hp hds
    rw [also_ne (ns p hp)] at hds
    obtain ⟨h1, h2, c, n, h3, h4, h5⟩ := k.ful p hp hds
    have e : p ≠ i := fun e => by rw [e, hd] at h1; cases h1
    rw [also_ne e, also_ne (nv p hp), upd_ne (nv p hp)]
    simp only [e, if_false]
    exact ⟨h1, h2, c, n, h3, h4, h5.later hb⟩
  · intro p hp q hq hdp hdq hpq
    by_cases e : p = i
    · by_cases e2 : q = i
      · exact absurd (e.trans e2.symm) hpq
      · have := k.old q hq (by rwa [also_ne e2] at hdq)
        simp only [e, e2, if_true, if_false]
        omega
    · have h1 := k.old p hp (by rwa [also_ne e] at hdp)
      by_cases e2 : q = i
      · simp only [e, e2, if_true, if_false]
        omega
      · simp only [e, e2, if_false]
        exact k.dis p hp q hq (by rwa [also_ne e] at hdp) (by rwa [also_ne e2] at hdq) hpq
theorem KnowsK.store {ops : Array Oper} {w0 : World} {m sz : Nat} {als : List Nat} {so vq : Nat → Nat} {Sp : Nat → Value → Prop} {g : Nat → Nat} {d : Nat → Bool} {v : Nat → Value} {W : World} (k : KnowsK w0 m als so vq Sp g d v W) (P : PlcK ops m sz als so vq) {p : Nat} (hp : p ∈ als) (hd : d (so p) = false) (hdp : d p = true) (hdq : d (vq p) = true) {c : List Value} {n : Nat} (hv : v (vq p) = .agg c.toArray) (hE : KeyC c n) :
    KnowsK w0 m als so vq Sp g (also d (so p)) (upd v (so p) undef) (W.setRow (g p) c.toArray) := by
  have nsa : ∀ q ∈ als, q ≠ so p := fun q hq e => (P.st p hp).2.2.1 (by rw [← e]; exact hq)
  have nvs : ∀ q ∈ als, vq q ≠ so p := fun q hq => P.vs q hq p hp
  have hz := k.zer p hp hdp hd
  refine ⟨below_setRow k.bel (k.ptr p hp hdp).2 _, ?_, ?_, ?_, ?_, ?_⟩
  · intro j h1 h2 h3 h4
    have e : j ≠ so p := fun e => h2 (by rw [e]; exact List.mem_map_of_mem hp)
    rw [upd_ne e]; rw [also_ne e] at h3; exact k.val j h1 h2 h3 h4
  · intro q hq hdq'
    rw [also_ne (nsa q hq)] at hdq'
    rw [upd_ne (nsa q hq)]
    exact k.ptr q hq hdq'
  · intro q hq hdq' hds
    rw [also_ne (nsa q hq)] at hdq'
    have e : so q ≠ so p := fun e => by rw [e, also_eq] at hds; cases hds
    have e2 : q ≠ p := fun e2 => e (by rw [e2])
    rw [also_ne e] at hds
    exact (k.zer q hq hdq' hds).put_other (k.dis q hq p hp hdq' hdp e2) _
  · intro q hq hds
    by_cases e : q = p
    · subst e
      rw [also_ne (nsa q hq), also_ne (nvs q hq), upd_ne (nvs q hq)]
      exact ⟨hdp, hdq, c, n, hv, hE, setRow_heap W _ _ _ _ _ hz⟩
    · have e2 : so q ≠ so p := fun e2 => e (P.one q hq p hp e2)
      rw [also_ne e2] at hds
      obtain ⟨h1, h2, c', n', h3, h4, h5⟩ := k.ful q hq hds
      rw [also_ne (nsa q hq), also_ne (nvs q hq), upd_ne (nvs q hq)]
      exact ⟨h1, h2, c', n', h3, h4, h5.put_other (k.dis q hq p hp h1 hdp e) _⟩
  · intro q hq r hr h1 h2
    rw [also_ne (nsa q hq)] at h1
    rw [also_ne (nsa r hr)] at h2
    exact k.dis q hq r hr h1 h2
/-- Elements are reckoned, places made, and filled, in whatever order. als: which operations make places; so, vq: which store there, and what; Sp: what each of the others leaves. -/
theorem wp_region_keys {ops : Array Oper} {Q : Exit → Act → World → Prop} {id : Nat} {a : Act} {w : World} (m : Nat) (hm : m ≤ ops.size) (hdown : downB .any ops = true) (hap : apartB ops m = true) (htl : tailB .any ops m = true) (hmx : Tryd.prog.follows .mixedOrders = true)
    (als : List Nat) (so vq : Nat → Nat) (P : PlcK ops m a.tmps.size als so vq) (Sp : Nat → Value → Prop) (hSp : ∀ p ∈ als, ∀ x, Sp (vq p) x → ∃ c n, x = .agg c.toArray ∧ KeyC c n)
    (hval : ∀ (d : Nat → Bool) (v : Nat → Value) (W : World) (i : Nat) (o : Oper) (A : Act), i < m → i ∉ als → i ∉ als.map so → ops[i]? = some o → (∀ j, j ∉ als → j ∉ als.map so → d j = true → j < m → Sp j (v j)) → (∀ e ∈ o.after, Region.binds .any e = true → d e.on = true) → Here ops m v d a A → Below w.drew.heap.size w.drew W →
      Region.wanted o (yielded ops A.tmps) = true ∧ o.wp Tryd.prog A W (fun a' W' => ∃ x, a' = A.put o.dst x ∧ Sp i x ∧ Below W.heap.size W W') Q)
    (hend : ∀ (v : Nat → Value) (g : Nat → Nat) (W : World), (∀ j, j < m → j ∉ als → j ∉ als.map so → Sp j (v j)) → (∀ p ∈ als, v p = .pointer (some ⟨g p, 0, none⟩) ∧ w.drew.heap.size ≤ g p ∧ ∃ c n, v (vq p) = .agg c.toArray ∧ KeyC c n ∧ CelK W (g p) c) → (∀ p ∈ als, ∀ q ∈ als, p ≠ q → g p ≠ g q) → Below w.drew.heap.size w.drew W →
      wpList Tryd.prog ops Q (ops.toList.drop m) (putAll ops v (fun _ => true) m a) W) :
    (Code.region id ops true).wp Tryd.prog Q a w := by
  refine wp_region_free hmx m hm hdown hap htl (fun d v W => ∃ g, KnowsK w.drew m als so vq Sp g d v W) (fun _ => undef)
    ⟨fun _ => 0, Below.refl _ _, fun j _ _ h => (by cases h), fun p _ h => (by cases h), fun p _ h => (by cases h), fun p _ h => (by cases h), fun p _ q _ h => (by cases h)⟩ ?_ ?_
  · rintro d v W i o A ⟨g, k⟩ hi ho hdi hall hA
    by_cases hia : i ∈ als
    · obtain ⟨_, o', ho', hop, hgu⟩ := P.mak i hia
      obtain rfl : o' = o := Option.some.inj (ho'.symm.trans ho)
      exact ⟨by unfold Region.wanted; rw [hgu], oper_val (exec_placeK hop) ⟨_, rfl, _, k.place P hia hdi⟩⟩
    · by_cases his : i ∈ als.map so
      · obtain ⟨p, hp, rfl⟩ := List.mem_map.1 his
        obtain ⟨h1, h2, h3, h4, o', x, y, ho', hop, hgu, hx, hy, hxs, hys, ⟨e1, he1, hb1, hon1⟩, ⟨e2, he2, hb2, hon2⟩⟩ := P.st p hp
        obtain rfl : o' = o := Option.some.inj (ho'.symm.trans ho)
        have hdp := hall e1 he1 hb1
        have hdq := hall e2 he2 hb2
        rw [hon1] at hdp
        rw [hon2] at hdq
        have hvp := k.ptr p hp hdp
        have hqs : vq p ∉ als.map so := fun hh => by
          obtain ⟨q, hq, e⟩ := List.mem_map.1 hh
          exact P.vs p hp q hq e.symm
        obtain ⟨c, n, hc, hE⟩ := hSp p hp _ (k.val (vq p) h4 hqs hdq h2)
        have ex := hA.new p x (P.mak p hp).1 hdp hx hxs
        have ey := hA.new (vq p) y h2 hdq hy hys
        rw [hvp.1] at ex
        rw [hc] at ey
        have hz := k.zer p hp hdp hdi
        exact ⟨by unfold Region.wanted; rw [hgu], oper_skip (exec_intoK hop ex ey hE zeroKc_len hz) ⟨undef, rfl, g, k.store P hp hdi hdp hdq hc hE⟩⟩
      · obtain ⟨hw, hwp⟩ := hval d v W i o A hi hia his ho k.val hall hA k.bel
        refine ⟨hw, Oper.wp_mono ?_ hwp⟩
        rintro a' W' ⟨x, rfl, hx, hb⟩
        exact ⟨x, rfl, g, k.value P hia his hdi hx hb⟩
  · rintro d v W hall ⟨g, k⟩
    refine hend v g W (fun j hj h1 h2 => k.val j h1 h2 (hall j hj) hj) (fun p hp => ?_) (fun p hp q hq hpq => k.dis p hp q hq (hall p (P.mak p hp).1) (hall q (P.mak q hq).1) hpq) k.bel
    have h1 := k.ptr p hp (hall p (P.mak p hp).1)
    obtain ⟨_, _, c, n, h3, h4, h5⟩ := k.ful p hp (hall _ (P.st p hp).1)
    exact ⟨h1.1, h1.2, c, n, h3, h4, h5⟩
end Go.Proofs.YtmdoojfcgbokjaaDoor
