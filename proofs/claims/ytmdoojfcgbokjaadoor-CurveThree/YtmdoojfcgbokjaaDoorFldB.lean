/- The walks over the program's least, Add and Sub (field). -/
import Derived.Test.YtmdoojfcgbokjaaDoorFldA
import Derived.Test.YtmdoojfcgbokjaaDoorFillW
import Derived.Test.YtmdoojfcgbokjaaDoorSchedE
namespace Go.Proofs.YtmdoojfcgbokjaaDoor
set_option linter.unusedVariables false
open Go.RowKit

set_option maxHeartbeats 1000000 in
set_option maxRecDepth 100000 in
theorem fleast_any (l : List Nat) (w : World) (hE : IsE l) :
    Calls Tryd.prog 31 #[.agg (l.map nf).toArray] w fun e w' => e = .returned (.agg ((lesF l).map nf).toArray) ∧ Below w.heap.size w w' := by
  have hl := hE.len
  have IL : Hid (∀ m : List Nat, m.length = 5 → (Tryd.prog.info? 41).map (·.size) = some (m.map nf).toArray.size) := fun m hm => nf_info m hm
  have HN0 : Hid (FB w w.heap.size (w.heap.size + 1) l ((w.alloc (.cells (l.map nf).toArray 41)).alloc (.cells #[.int .u64 0, .int .u64 0, .int .u64 0, .int .u64 0, .int .u64 0] 41))) := FB.new1 w l
  go_enter Tryd.func31, Tryd.ntmps31
  go_wp2_with (first | refine wpList_load_row rfl 41 _ rfl w.heap.size rfl 41 _ (0, 0) _ HN0.out.now Tryd.underlying41 rfl (IL.out l hl) ?_ | fail)
  refine (fcarry_any l _ hl hE.small).mono ?_
  rintro e W1 ⟨rfl, hb1⟩
  have hN1 := HN0.out.later hb1
  have hin := carF_in l hE
  obtain ⟨m, hm⟩ : ∃ m, carF l = m := ⟨_, rfl⟩
  have hml : m.length = 5 := by rw [← hm, carF_length, hl]
  rw [hm] at hin ⊢
  have hle : lesF l = if 0 < (plTo m 19 5).2 then (plTo m 19 5).1 else m := by rw [lesF, hm]
  have hst := store_row W1 w.heap.size _ _ (m.map nf) hN1.now (by simp [hml, hl]) (nf_oneCell m)
  have hN2 := hN1.put m
  obtain ⟨W2, hW2⟩ : ∃ W2, W1.setRow w.heap.size (m.map nf).toArray = W2 := ⟨_, rfl⟩
  rw [hW2] at hst hN2
  have HN2 : Hid (FB w w.heap.size (w.heap.size + 1) m W2) := hN2
  have HLe : Hid (lesF l = if 0 < (plTo m 19 5).2 then (plTo m 19 5).1 else m) := hle
  clear hN2 hN1 hW2 hm hb1 HN0 hle
  go_wp2_with (first | refine wpList_load_row rfl 41 _ rfl w.heap.size rfl 41 _ (0, 0) _ HN2.out.now Tryd.underlying41 rfl (IL.out m hml) ?_ | fail)
  refine (plus_any m 19 _ hml (fun x hx => Nat.lt_trans (hin x hx) (by decide)) (by decide)).mono ?_
  rintro e W3 ⟨rfl, hb3⟩
  have hN3 := HN2.out.later hb3
  obtain ⟨p, hp⟩ : ∃ p, (plTo m 19 5).1 = p := ⟨_, rfl⟩
  obtain ⟨o, ho⟩ : ∃ o, (plTo m 19 5).2 = o := ⟨_, rfl⟩
  have hpl : p.length = 5 := by rw [← hp, plTo_length, hml]
  have hLe := HLe.out
  rw [hp, ho] at hLe ⊢
  have hst3 := run_store_new W3 41 (p.map nf) 5 (by simp [hpl]) (by kernel_rfl) (nf_oneCell p)
  have hP : Nf (W3.alloc (.cells (p.map nf).toArray 41)) W3.heap.size p := heap_alloc_new W3 _
  have hN4 : FB w w.heap.size (w.heap.size + 1) m (W3.alloc (.cells (p.map nf).toArray 41)) := hN3.later ((Below.refl _ _).alloc (Nat.le_refl _) _)
  obtain ⟨W4, hW4⟩ : ∃ W4, W3.alloc (.cells (p.map nf).toArray 41) = W4 := ⟨_, rfl⟩
  rw [hW4] at hst3 hP hN4
  have HP : Hid (Nf W4 W3.heap.size p) := hP
  have HN4 : Hid (FB w w.heap.size (w.heap.size + 1) m W4) := hN4
  clear hP hN4 hN3 hW4 hb3 HN2 hp ho HLe hst hin
  by_cases hov : 0 < o
  · have hoi : 0 < (o : Int) := by omega
    rw [if_pos hov] at hLe
    have HLe : Hid (lesF l = p) := hLe
    have hst2 := store_row W4 (w.heap.size + 1) _ _ (p.map nf) HN4.out.res (by simp [hpl]) (nf_oneCell p)
    have hrow := setRow_heap W4 (w.heap.size + 1) _ (p.map nf).toArray _ _ HN4.out.res
    have HBel : Hid (Below w.heap.size w (W4.setRow (w.heap.size + 1) (p.map nf).toArray)) := below_setRow HN4.out.bel HN4.out.br _
    obtain ⟨W5, hW5⟩ : ∃ W5, W4.setRow (w.heap.size + 1) (p.map nf).toArray = W5 := ⟨_, rfl⟩
    rw [hW5] at hst2 hrow HBel
    have HRow : Hid (W5.heap[w.heap.size + 1]? = some (.cells (p.map nf).toArray 41 (0, 0))) := hrow
    clear hrow hW5 hLe hov
    go_wp2_with (first | refine wpList_load_row rfl 41 _ rfl W3.heap.size rfl 41 _ (0, 0) _ HP.out Tryd.underlying41 rfl (IL.out p hpl) ?_ | fail)
    (try simp only [Exit.inBlock, Exit.then])
    refine bodyPost_ret (results_cell_row rfl _ _ (w.heap.size + 1) 41 _ (0, 0) _ rfl HRow.out Tryd.underlying41 rfl (IL.out p hpl)) rfl ?_
    exact ⟨by rw [HLe.out], HBel.out⟩
  · have hoi : ¬ 0 < (o : Int) := by omega
    rw [if_neg hov] at hLe
    have HLe : Hid (lesF l = m) := hLe
    have hst2 := store_row W4 (w.heap.size + 1) _ _ (m.map nf) HN4.out.res (by simp [hml]) (nf_oneCell m)
    have hrow := setRow_heap W4 (w.heap.size + 1) _ (m.map nf).toArray _ _ HN4.out.res
    have HBel : Hid (Below w.heap.size w (W4.setRow (w.heap.size + 1) (m.map nf).toArray)) := below_setRow HN4.out.bel HN4.out.br _
    obtain ⟨W5, hW5⟩ : ∃ W5, W4.setRow (w.heap.size + 1) (m.map nf).toArray = W5 := ⟨_, rfl⟩
    rw [hW5] at hst2 hrow HBel
    have HRow : Hid (W5.heap[w.heap.size + 1]? = some (.cells (m.map nf).toArray 41 (0, 0))) := hrow
    clear hrow hW5 hLe hov
    go_wp2_with (first | refine wpList_load_row rfl 41 _ rfl w.heap.size rfl 41 _ (0, 0) _ HN4.out.now Tryd.underlying41 rfl (IL.out m hml) ?_ | fail)
    (try simp only [Exit.inBlock, Exit.then])
    refine bodyPost_ret (results_cell_row rfl _ _ (w.heap.size + 1) 41 _ (0, 0) _ rfl HRow.out Tryd.underlying41 rfl (IL.out m hml)) rfl ?_
    exact ⟨by rw [HLe.out], HBel.out⟩

/-- A number that changes, one that stays, and the place of an answer. -/
structure F3 (w : World) (g h r : Nat) (l m : List Nat) (W : World) : Prop where
  now : Nf W g l
  oth : Nf W h m
  res : Nf W r [0, 0, 0, 0, 0]
  nh : h ≠ g
  nr : r ≠ g
  bg : w.heap.size ≤ g
  br : w.heap.size ≤ r
  bel : Below w.heap.size w W
theorem F3.set {w W : World} {g h r : Nat} {l m : List Nat} (t : F3 w g h r l m W) (i x : Nat) : F3 w g h r (l.set i x) m (W.setCell ⟨g, i, none⟩ (nf x)) := by
  have hg := t.bg
  exact ⟨t.now.set i x, t.oth.other t.nh i _, t.res.other t.nr i _, t.nh, t.nr, t.bg, t.br, t.bel.setCell (p := ⟨g, i, none⟩) (by show _ ≤ g; omega) _⟩
theorem F3.drew {w W : World} {g h r : Nat} {l m : List Nat} (t : F3 w g h r l m W) : F3 w g h r l m W.drew :=
  ⟨t.now, t.oth, t.res, t.nh, t.nr, t.bg, t.br, t.bel.drew⟩
theorem F3.later {w W W' : World} {g h r : Nat} {l m : List Nat} (t : F3 w g h r l m W) (hb : Below W.heap.size W W') : F3 w g h r l m W' :=
  ⟨t.now.later hb, t.oth.later hb, t.res.later hb, t.nh, t.nr, t.bg, t.br, t.bel.trans (hb.mono t.bel.size)⟩
theorem nf_new2 (w : World) (l m : List Nat) : Nf ((w.alloc (.cells (l.map nf).toArray 41)).alloc (.cells (m.map nf).toArray 41)) (w.heap.size + 1) m ∧ Nf ((w.alloc (.cells (l.map nf).toArray 41)).alloc (.cells (m.map nf).toArray 41)) w.heap.size l := by
  constructor
  · have := heap_alloc_new (w.alloc (.cells (l.map nf).toArray 41)) (.cells (m.map nf).toArray 41)
    rw [World.size_alloc] at this
    exact this
  · unfold Nf
    rw [Below.heap_alloc _ _ _ (by simp)]
    exact heap_alloc_new w _
theorem F3.new (w : World) (l m : List Nat) : F3 w w.heap.size (w.heap.size + 1) (w.heap.size + 1 + 1) l m (((w.alloc (.cells (l.map nf).toArray 41)).alloc (.cells (m.map nf).toArray 41)).alloc (.cells #[.int .u64 0, .int .u64 0, .int .u64 0, .int .u64 0, .int .u64 0] 41)) := by
  obtain ⟨h1, h2⟩ := nf_new2 w l m
  refine ⟨h2.alloc _, h1.alloc _, ?_, by omega, by omega, by omega, by omega, ?_⟩
  · have := heap_alloc_new ((w.alloc (.cells (l.map nf).toArray 41)).alloc (.cells (m.map nf).toArray 41)) (.cells #[.int .u64 0, .int .u64 0, .int .u64 0, .int .u64 0, .int .u64 0] 41)
    rw [World.size_alloc, World.size_alloc] at this
    exact this
  · exact (((Below.refl _ _).alloc (Nat.le_refl _) _).alloc (by simp) _).alloc (by simp <;> omega) _

/-- An element: its digits, and the number that they are. -/
structure Elm (cs : List Value) (x : Nat) : Prop where
  dig : ∃ l : List Nat, cs = l.map nf ∧ IsE l ∧ valF l % P255 = x
theorem Elm.len {cs : List Value} {x : Nat} (h : Elm cs x) : cs.length = 5 := by
  obtain ⟨l, rfl, hE, _⟩ := h.dig
  rw [List.length_map, hE.len]
theorem Elm.one {cs : List Value} {x : Nat} (h : Elm cs x) : ∀ v ∈ cs, v.oneCell' = true := by
  obtain ⟨l, rfl, hE, _⟩ := h.dig
  exact nf_oneCell l
theorem Elm.lt {cs : List Value} {x : Nat} (h : Elm cs x) : x < P255 := by
  obtain ⟨l, rfl, hE, hx⟩ := h.dig
  rw [← hx]
  exact Nat.mod_lt _ P255_pos
theorem Elm.kind {cs : List Value} {x : Nat} (h : Elm cs x) : ∀ v ∈ cs, ∀ d, v ≠ .int .i64 d := by
  obtain ⟨l, rfl, hE, _⟩ := h.dig
  intro v hv d hd
  obtain ⟨c, _, rfl⟩ := List.mem_map.1 hv
  cases hd
/-- The cells of an element of 0. -/
def zeroE : List Value := [.int .u64 0, .int .u64 0, .int .u64 0, .int .u64 0, .int .u64 0]
theorem elm_zero : Elm zeroE 0 := ⟨[0, 0, 0, 0, 0], rfl, ⟨0, 0, 0, 0, 0, rfl, by decide, by decide, by decide, by decide, by decide⟩, by decide⟩
/-- The program's table is as its text lays it. -/
def FTab (w : World) : Prop := ∃ t fr, w.heap[0]? = some (.cells (twP.map nf).toArray t fr)
theorem FTab.lt {w : World} (h : FTab w) : 0 < w.heap.size := by
  obtain ⟨t, fr, h1⟩ := h
  exact (Array.getElem?_eq_some_iff.1 h1).1
theorem FTab.later {w w' : World} (h : FTab w) (hb : Below w.heap.size w w') : FTab w' := by
  have hl := h.lt
  obtain ⟨t, fr, h1⟩ := h
  exact ⟨t, fr, by rw [hb.block _ hl]; exact h1⟩
theorem FTab.word {w : World} (h : FTab w) (i : Nat) (hi : i < 5) : w.cell? ⟨0, i, none⟩ = some (.int .u64 (atD twP i : Int)) := by
  obtain ⟨t, fr, h1⟩ := h
  rw [cell_of_row w _ i _ t fr h1, atD_get twP i (by simpa [twP] using hi)]
  simp [nf, show i < twP.length by simpa [twP] using hi]

set_option maxHeartbeats 1000000 in
set_option maxRecDepth 100000 in
theorem fadd_any (A B : List Value) (x y : Nat) (w : World) (hA : Elm A x) (hB : Elm B y) :
    Calls Tryd.prog 34 #[.agg A.toArray, .agg B.toArray] w fun e w' => ∃ cs, e = .returned (.agg cs.toArray) ∧ Elm cs ((x + y) % P255) ∧ Below w.heap.size w w' := by
  obtain ⟨l, rfl, hEl, hx⟩ := hA.dig
  obtain ⟨m, rfl, hEm, hy⟩ := hB.dig
  have hl := hEl.len
  have hm := hEm.len
  have hb := hEl.lt
  have hc := hEm.lt
  have HV : Hid (Elm ((carF (addTo l m 5)).map nf) ((x + y) % P255)) := ⟨_, rfl, add_isE l m hEl hEm, by rw [carF_val _ (by rw [addTo_length, hl]), add_val l m hEl hEm, hx, hy]⟩
  clear hA hB hx hy hEl hEm
  go_enter Tryd.func34, Tryd.ntmps34
  go_wp2
  refine from_world (P := Code.wp Tryd.prog _ _ _) (R := fun W => Hid (F3 w w.heap.size (w.heap.size + 1) (w.heap.size + 1 + 1) l m W)) _ (F3.new w l m) ?_
  intro W0 hN0
  generalize hg : w.heap.size = g at hN0 ⊢
  generalize hh : g + 1 = h at hN0 ⊢
  generalize hr : h + 1 = r at hN0 ⊢
  go_loopw [6] (fun i wr => ∃ k : Nat, k ≤ 5 ∧ i = .int .i64 k ∧ Hid (F3 w g h r (addTo l m k) m wr)) (fun i _ => 5 - (intOf i).toNat)
  case atStart => exact ⟨0, by omega, rfl, hN0⟩
  case round =>
    clear hN0
    obtain ⟨k, hk, rfl, hN⟩ := hrel
    by_cases hlt : k < 5
    · have hki : (k : Int) < 5 := by omega
      obtain ⟨a, ha⟩ : ∃ a, atD (addTo l m k) k = a := ⟨_, rfl⟩
      obtain ⟨b, hb'⟩ : ∃ b, atD m k = b := ⟨_, rfl⟩
      obtain ⟨W1, hW1⟩ : ∃ W1, wr.drew = W1 := ⟨_, rfl⟩
      have hN1 := hN.out.drew
      rw [hW1] at hN1
      obtain ⟨c1, f1⟩ := hN1.now.word k (by rw [addTo_length]; omega)
      obtain ⟨c2, f2⟩ := hN1.oth.word k (by omega)
      rw [ha] at c1
      rw [hb'] at c2
      have hab : a < 2251799813685286 := by rw [← ha, addTo_at l m k k (Nat.le_refl _)]; exact atD_bound l _ (by omega) hb k
      have hbb : b < 2251799813685286 := by rw [← hb']; exact atD_bound m _ (by omega) hc k
      obtain ⟨W2, hW2⟩ : ∃ W2, W1.setCell ⟨g, k, none⟩ (.int .u64 ((a : Int) + (b : Int))) = W2 := ⟨_, rfl⟩
      have HN2 : Hid (F3 w g h r (addTo l m (k + 1)) m W2) := by rw [addTo, ha, hb', ← hW2]; exact hN1.set k (a + b)
      have E1 : Hid (IntKind.u64.wrap ((a : Int) + (b : Int)) = (a : Int) + (b : Int)) := by show _ = _; rw [IntKind.wrap_u64]; omega
      have HW1 : Hid (wr.drew = W1) := hW1
      have HW2 : Hid (W1.setCell ⟨g, k, none⟩ (.int .u64 ((a : Int) + (b : Int))) = W2) := hW2
      clear hN hN1 hW1 hW2 ha hb'
      go_wp2
      refine wp_region_last (G := Stays) (by kernel_rfl) Stays.refl Stays.trans (by kernel_rfl) [(0, true), (1, true), (2, true), (3, true), (4, true), (5, true), (6, true), (7, true), (8, true), (9, true), (10, true)] 11 _ rfl ((Array.replicate 12 false).mapIdx fun i _ => i < 11) rfl (by kernel_rfl) (by kernel_rfl) (by kernel_rfl) (by kernel_rfl) ?_
      intro KK hKK
      rw [HW1.out]
      iterate 11 (refine sched_take rfl (by rfl) (v := ?_) ?_ ?_; rotate_left; (rintro w' rfl; go_simp; with_reducible rfl); go_simp)
      refine hKK.out _ _ W2 (by rfl) (by rw [← HW2.out]; go_simp; rw [E1.out]) ?_
      go_simp
      go_wp2
      exact ⟨⟨k + 1, by omega, by go_num, HN2⟩, by simp [intOf]; omega⟩
    · have ek : k = 5 := by omega
      subst ek
      have hkr : ¬ ((5 : Nat) : Int) < 5 := by omega
      have hsb : ∀ x ∈ addTo l m 5, x < 9223372036854775808 := by
        obtain ⟨a0, a1, a2, a3, a4, rfl⟩ := five l hl
        obtain ⟨b0, b1, b2, b3, b4, rfl⟩ := five m hm
        show ∀ x ∈ [a0 + b0, a1 + b1, a2 + b2, a3 + b3, a4 + b4], x < 9223372036854775808
        simp at hb hc ⊢
        omega
      obtain ⟨s, hs⟩ : ∃ s, addTo l m 5 = s := ⟨_, rfl⟩
      have hsl : s.length = 5 := by rw [← hs, addTo_length, hl]
      rw [hs] at hN hsb HV
      have IB : Hid ((Tryd.prog.info? 41).map (·.size) = some (s.map nf).toArray.size) := nf_info s hsl
      clear hs hb hc
      go_wp2_with (first | refine wpList_load_row rfl 41 _ rfl g rfl 41 _ (0, 0) _ hN.out.now Tryd.underlying41 rfl IB.out ?_ | fail)
      refine (fcarry_any s wr hsl hsb).mono ?_
      rintro e w8 ⟨rfl, hb8⟩
      have hN8 := hN.out.later hb8
      obtain ⟨c, hcc⟩ : ∃ c, carF s = c := ⟨_, rfl⟩
      have hcl : c.length = 5 := by rw [← hcc, carF_length, hsl]
      rw [hcc] at HV ⊢
      have IC : Hid ((Tryd.prog.info? 41).map (·.size) = some (c.map nf).toArray.size) := nf_info c hcl
      have hst := store_row w8 r _ _ (c.map nf) hN8.res (by simp [hcl]) (nf_oneCell c)
      have hrow := setRow_heap w8 r _ (c.map nf).toArray _ _ hN8.res
      have HBel : Hid (Below w.heap.size w (w8.setRow r (c.map nf).toArray)) := below_setRow hN8.bel hN8.br _
      obtain ⟨W4, hW4⟩ : ∃ W4, w8.setRow r (c.map nf).toArray = W4 := ⟨_, rfl⟩
      rw [hW4] at hst hrow HBel
      have HRow : Hid (W4.heap[r]? = some (.cells (c.map nf).toArray 41 (0, 0))) := hrow
      clear hrow hW4 hN8 hN hb8 hcc
      go_wp2
      (try simp only [Exit.inBlock, Exit.then])
      refine bodyPost_ret (results_cell_row rfl _ _ r 41 _ (0, 0) _ rfl HRow.out Tryd.underlying41 rfl IC.out) rfl ?_
      exact ⟨c.map nf, rfl, HV.out, by first | exact HBel.out | (rw [← hg]; exact HBel.out)⟩

set_option maxHeartbeats 1000000 in
set_option maxRecDepth 100000 in
theorem fsub_any (A B : List Value) (x y : Nat) (w : World) (hA : Elm A x) (hB : Elm B y) (htab : FTab w) :
    Calls Tryd.prog 35 #[.agg A.toArray, .agg B.toArray] w fun e w' => ∃ cs, e = .returned (.agg cs.toArray) ∧ Elm cs ((x + (P255 - y)) % P255) ∧ Below w.heap.size w w' := by
  obtain ⟨l, rfl, hEl, hx⟩ := hA.dig
  obtain ⟨m, rfl, hEm, hy⟩ := hB.dig
  have hl := hEl.len
  have hm := hEm.len
  have hb := hEl.lt
  have hc := hEm.lt
  have HGe : Hid (∀ k, k < 5 → atD m k ≤ atD twP k) := fun k hk => twP_ge m hEm k hk
  have HV : Hid (Elm ((carF (subTo l m 5)).map nf) ((x + (P255 - y)) % P255)) := ⟨_, rfl, sub_isE l m hEl hEm, by rw [carF_val _ (by rw [subTo_length, hl]), sub_val l m hEl hEm, hx, hy]⟩
  have hsb : ∀ x ∈ subTo l m 5, x < 9223372036854775808 := by
    obtain ⟨a0, a1, a2, a3, a4, rfl⟩ := five l hl
    obtain ⟨b0, b1, b2, b3, b4, rfl⟩ := five m hm
    rw [subTo_five]
    simp at hb hc ⊢
    omega
  have HSB : Hid (∀ x ∈ subTo l m 5, x < 9223372036854775808) := hsb
  have HTab : Hid (FTab w) := htab
  clear hA hB hx hy hEl hEm hsb htab
  go_enter Tryd.func35, Tryd.ntmps35
  go_wp2
  refine from_world (P := Code.wp Tryd.prog _ _ _) (R := fun W => Hid (F3 w w.heap.size (w.heap.size + 1) (w.heap.size + 1 + 1) l m W)) _ (F3.new w l m) ?_
  intro W0 hN0
  generalize hg : w.heap.size = g at hN0 ⊢
  generalize hh : g + 1 = h at hN0 ⊢
  generalize hr : h + 1 = r at hN0 ⊢
  go_loopw [6] (fun i wr => ∃ k : Nat, k ≤ 5 ∧ i = .int .i64 k ∧ Hid (F3 w g h r (subTo l m k) m wr)) (fun i _ => 5 - (intOf i).toNat)
  case atStart => exact ⟨0, by omega, rfl, hN0⟩
  case round =>
    clear hN0
    obtain ⟨k, hk, rfl, hN⟩ := hrel
    by_cases hlt : k < 5
    · have hki : (k : Int) < 5 := by omega
      obtain ⟨a, ha⟩ : ∃ a, atD (subTo l m k) k = a := ⟨_, rfl⟩
      obtain ⟨b, hb'⟩ : ∃ b, atD m k = b := ⟨_, rfl⟩
      obtain ⟨t, ht⟩ : ∃ t, atD twP k = t := ⟨_, rfl⟩
      obtain ⟨W1, hW1⟩ : ∃ W1, wr.drew = W1 := ⟨_, rfl⟩
      have hN1 := hN.out.drew
      rw [hW1] at hN1
      obtain ⟨c1, f1⟩ := hN1.now.word k (by rw [subTo_length]; omega)
      obtain ⟨c2, f2⟩ := hN1.oth.word k (by omega)
      have c3 := (HTab.out.later hN1.bel).word k hlt
      rw [ha] at c1
      rw [hb'] at c2
      rw [ht] at c3
      have hab : a < 2251799813685286 := by rw [← ha, subTo_at l m k k (Nat.le_refl _)]; exact atD_bound l _ (by omega) hb k
      have htl := twP_lt k
      have htg := HGe.out k hlt
      rw [ht] at htl htg
      rw [hb'] at htg
      obtain ⟨s, hs⟩ : ∃ s, t - b = s := ⟨_, rfl⟩
      have E0 : Hid (IntKind.u64.wrap ((t : Int) - (b : Int)) = (s : Int)) := by show _ = _; rw [IntKind.wrap_u64]; omega
      have e1 : IntKind.u64.wrap ((a : Int) + (s : Int)) = (a : Int) + (s : Int) := by rw [IntKind.wrap_u64]; omega
      have E1 : Hid (IntKind.u64.wrap ((a : Int) + (s : Int)) = (a : Int) + (s : Int)) := e1
      obtain ⟨W2, hW2⟩ : ∃ W2, W1.setCell ⟨g, k, none⟩ (.int .u64 ((a : Int) + (s : Int))) = W2 := ⟨_, rfl⟩
      have HN2 : Hid (F3 w g h r (subTo l m (k + 1)) m W2) := by rw [subTo, ha, hb', ht, hs, ← hW2]; exact hN1.set k (a + s)
      have HW1 : Hid (wr.drew = W1) := hW1
      have HW2 : Hid (W1.setCell ⟨g, k, none⟩ (.int .u64 ((a : Int) + (s : Int))) = W2) := hW2
      clear hN hN1 hW1 hW2 ha hb' ht hab htl htg hs e1
      go_wp2
      refine wp_region_last (G := Stays) (by kernel_rfl) Stays.refl Stays.trans (by kernel_rfl) [(0, true), (1, true), (2, true), (3, true), (4, true), (5, true), (6, true), (7, true), (8, true), (9, true), (10, true), (11, true), (12, true), (13, true), (14, true)] 15 _ rfl ((Array.replicate 16 false).mapIdx fun i _ => i < 15) rfl (by kernel_rfl) (by kernel_rfl) (by kernel_rfl) (by kernel_rfl) ?_
      intro KK hKK
      rw [HW1.out]
      iterate 11 (refine sched_take rfl (by rfl) (v := ?_) ?_ ?_; rotate_left; (rintro w' rfl; go_simp; with_reducible rfl); go_simp)
      refine sched_take rfl (by rfl) (v := .int .u64 (s : Int)) (by rintro w' rfl; go_simp; rw [E0.out]) ?_
      go_simp
      iterate 3 (refine sched_take rfl (by rfl) (v := ?_) ?_ ?_; rotate_left; (rintro w' rfl; go_simp; with_reducible rfl); go_simp)
      refine hKK.out _ _ W2 (by rfl) (by rw [← HW2.out]; go_simp; rw [E1.out]) ?_
      go_simp
      go_wp2
      exact ⟨⟨k + 1, by omega, by go_num, HN2⟩, by simp [intOf]; omega⟩
    · have ek : k = 5 := by omega
      subst ek
      have hkr : ¬ ((5 : Nat) : Int) < 5 := by omega
      obtain ⟨s, hs⟩ : ∃ s, subTo l m 5 = s := ⟨_, rfl⟩
      have hsl : s.length = 5 := by rw [← hs, subTo_length, hl]
      rw [hs] at hN HSB HV
      have IB : Hid ((Tryd.prog.info? 41).map (·.size) = some (s.map nf).toArray.size) := nf_info s hsl
      clear hs hb hc
      go_wp2_with (first | refine wpList_load_row rfl 41 _ rfl g rfl 41 _ (0, 0) _ hN.out.now Tryd.underlying41 rfl IB.out ?_ | fail)
      refine (fcarry_any s wr hsl HSB.out).mono ?_
      rintro e w8 ⟨rfl, hb8⟩
      have hN8 := hN.out.later hb8
      obtain ⟨c, hcc⟩ : ∃ c, carF s = c := ⟨_, rfl⟩
      have hcl : c.length = 5 := by rw [← hcc, carF_length, hsl]
      rw [hcc] at HV ⊢
      have IC : Hid ((Tryd.prog.info? 41).map (·.size) = some (c.map nf).toArray.size) := nf_info c hcl
      have hst := store_row w8 r _ _ (c.map nf) hN8.res (by simp [hcl]) (nf_oneCell c)
      have hrow := setRow_heap w8 r _ (c.map nf).toArray _ _ hN8.res
      have HBel : Hid (Below w.heap.size w (w8.setRow r (c.map nf).toArray)) := below_setRow hN8.bel hN8.br _
      obtain ⟨W4, hW4⟩ : ∃ W4, w8.setRow r (c.map nf).toArray = W4 := ⟨_, rfl⟩
      rw [hW4] at hst hrow HBel
      have HRow : Hid (W4.heap[r]? = some (.cells (c.map nf).toArray 41 (0, 0))) := hrow
      clear hrow hW4 hN8 hN hb8 hcc
      go_wp2
      (try simp only [Exit.inBlock, Exit.then])
      refine bodyPost_ret (results_cell_row rfl _ _ r 41 _ (0, 0) _ rfl HRow.out Tryd.underlying41 rfl IC.out) rfl ?_
      exact ⟨c.map nf, rfl, HV.out, by first | exact HBel.out | (rw [← hg]; exact HBel.out)⟩
end Go.Proofs.YtmdoojfcgbokjaaDoor
