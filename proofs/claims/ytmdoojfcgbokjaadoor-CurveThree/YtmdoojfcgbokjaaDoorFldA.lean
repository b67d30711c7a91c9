/- The walks over the program's numbers of five digits (field): plus, carry, least. -/
import Derived.Test.YtmdoojfcgbokjaaDoorMathFive
import Derived.Test.YtmdoojfcgbokjaaDoorBase
import Derived.Test.YtmdoojfcgbokjaaDoorArrB
namespace Go.Proofs.YtmdoojfcgbokjaaDoor
set_option linter.unusedVariables false
open Go.RowKit

def nf (n : Nat) : Value := .int .u64 (n : Int)
/-- A number's digits in a block of memory. -/
def Nf (w : World) (g : Nat) (l : List Nat) : Prop := w.heap[g]? = some (.cells (l.map nf).toArray 41 (0, 0))
theorem Nf.set {w : World} {g : Nat} {l : List Nat} (h : Nf w g l) (i : Nat) (x : Nat) : Nf (w.setCell ⟨g, i, none⟩ (nf x)) g (l.set i x) := by
  have := heap_setCell_same w g i _ _ (nf x) h
  unfold Nf
  rw [this, List.map_set]
  simp
theorem Nf.other {w : World} {g g' : Nat} {l : List Nat} (h : Nf w g l) (hne : g ≠ g') (i : Nat) (v : Value) : Nf (w.setCell ⟨g', i, none⟩ v) g l := by
  unfold Nf
  rw [heap_setCell_other w ⟨g', i, none⟩ g v hne]
  exact h
theorem Nf.drew {w : World} {g : Nat} {l : List Nat} (h : Nf w g l) : Nf w.drew g l := h
theorem Nf.word {w : World} {g : Nat} {l : List Nat} (h : Nf w g l) (i : Nat) (hi : i < l.length) :
    w.cell? ⟨g, i, none⟩ = some (.int .u64 (atD l i : Int)) ∧ w.frozen? ⟨g, i, none⟩ = false := by
  refine ⟨?_, frozen_of_row w g i _ _ h⟩
  rw [cell_of_row w g i _ _ (0, 0) h, atD_get l i hi]
  simp [hi, nf]
theorem Nf.lt {w : World} {g : Nat} {l : List Nat} (h : Nf w g l) : g < w.heap.size := (Array.getElem?_eq_some_iff.1 h).1
theorem Nf.later {w w' : World} {g : Nat} {l : List Nat} (h : Nf w g l) (hb : Below w.heap.size w w') : Nf w' g l := by
  unfold Nf
  rw [hb.block g h.lt]
  exact h
theorem Nf.alloc {w : World} {g : Nat} {l : List Nat} (h : Nf w g l) (o : Obj) : Nf (w.alloc o) g l := by
  unfold Nf
  rw [Below.heap_alloc _ _ _ h.lt]
  exact h
theorem Nf.put_other {w : World} {g g' : Nat} {l : List Nat} (h : Nf w g l) (hne : g ≠ g') (cs : Array Value) : Nf (w.setRow g' cs) g l := by
  unfold Nf
  rw [setRow_other _ _ _ _ hne]
  exact h
theorem nf_oneCell (l : List Nat) : ∀ u ∈ l.map nf, u.oneCell' = true := by
  intro u hu
  simp only [List.mem_map] at hu
  obtain ⟨c, _, rfl⟩ := hu
  rfl
theorem nf_info (l : List Nat) (hl : l.length = 5) : (Tryd.prog.info? 41).map (·.size) = some (l.map nf).toArray.size := by
  have e1 : (Tryd.prog.info? 41).map (·.size) = some 5 := by kernel_rfl
  rw [e1]; simp [hl]
theorem results_cell_slot {P : Program} {fn : Func} {p q : Tmp} {ty : TypeId} (h : fn.results = #[.cell p ty, .tmp q]) (tmps : Array Value) (w : World) (g1 : Nat) (t : TypeId) (A : Array Value) (v : Value) (d : TypeDesc)
    (hp : tmps.getD p undef = .pointer (some ⟨g1, 0, none⟩)) (hq : tmps.getD q undef = v)
    (h1 : w.heap[g1]? = some (.cells A t (0, 0)))
    (hu : P.underlying ty = some d) (hd : (match d with | .struct _ | .array _ _ => true | _ => false) = true) (hA : (P.info? ty).map (·.size) = some A.size) :
    (results fn tmps).run P w = .ok (.tuple #[.agg A, v]) w := by
  have hp' : tmps[p]?.getD undef = .pointer (some ⟨g1, 0, none⟩) := by simpa using hp
  have hq' : tmps[q]?.getD undef = v := by simpa using hq
  simp [results, h, hp', hq', asAddr, run_loadVar_row w g1 t ty A (0, 0) d h1 hu hd hA]
/-- A number, and the place of an answer. -/
structure FB (w : World) (g r : Nat) (l : List Nat) (W : World) : Prop where
  now : Nf W g l
  res : Nf W r [0, 0, 0, 0, 0]
  ne : g ≠ r
  bg : w.heap.size ≤ g
  br : w.heap.size ≤ r
  bel : Below w.heap.size w W
theorem FB.set {w W : World} {g r : Nat} {l : List Nat} (h : FB w g r l W) (i x : Nat) : FB w g r (l.set i x) (W.setCell ⟨g, i, none⟩ (nf x)) := by
  have hg := h.bg
  exact ⟨h.now.set i x, h.res.other (Ne.symm h.ne) i _, h.ne, h.bg, h.br, h.bel.setCell (p := ⟨g, i, none⟩) (by show _ ≤ g; omega) _⟩
theorem FB.new1 (w : World) (l : List Nat) : FB w w.heap.size (w.heap.size + 1) l ((w.alloc (.cells (l.map nf).toArray 41)).alloc (.cells #[.int .u64 0, .int .u64 0, .int .u64 0, .int .u64 0, .int .u64 0] 41)) := by
  refine ⟨?_, ?_, by omega, by omega, by omega, ?_⟩
  · unfold Nf
    rw [Below.heap_alloc _ _ _ (by simp)]
    exact heap_alloc_new w _
  · have := heap_alloc_new (w.alloc (.cells (l.map nf).toArray 41)) (.cells #[.int .u64 0, .int .u64 0, .int .u64 0, .int .u64 0, .int .u64 0] 41)
    rw [World.size_alloc] at this
    exact this
  · exact ((Below.refl _ _).alloc (Nat.le_refl _) _).alloc (by simp) _
theorem FB.later {w W W' : World} {g r : Nat} {l : List Nat} (t : FB w g r l W) (hb : Below W.heap.size W W') : FB w g r l W' :=
  ⟨t.now.later hb, t.res.later hb, t.ne, t.bg, t.br, t.bel.trans (hb.mono t.bel.size)⟩
theorem FB.put {w W : World} {g r : Nat} {l : List Nat} (t : FB w g r l W) (l' : List Nat) : FB w g r l' (W.setRow g (l'.map nf).toArray) :=
  ⟨setRow_heap W g _ _ _ _ t.now, t.res.put_other (Ne.symm t.ne) _, t.ne, t.bg, t.br, below_setRow t.bel t.bg _⟩

theorem and51 (n : Nat) (h : n < 18446744073709551616) : bits .and .u64 (n : Int) 2251799813685247 = ((n % 2251799813685248 : Nat) : Int) := by
  have e : (BitVec.ofInt 64 (n : Int) &&& BitVec.ofInt 64 2251799813685247).toNat = n % 2251799813685248 := by
    rw [BitVec.toNat_and, BitVec.toNat_ofInt]
    have h7 : (BitVec.ofInt 64 2251799813685247).toNat = 2 ^ 51 - 1 := by decide
    rw [h7, Nat.and_two_pow_sub_one_eq_mod]
    omega
  show IntKind.u64.wrap ((BitVec.ofInt 64 (n : Int) &&& BitVec.ofInt 64 2251799813685247).toNat : Int) = _
  rw [e, IntKind.wrap_u64]
  omega

set_option maxHeartbeats 1000000 in
set_option maxRecDepth 100000 in
theorem plus_any (l : List Nat) (n : Nat) (w : World) (hl : l.length = 5) (hb : ∀ x ∈ l, x < 9223372036854775808) (hn : n < 4611686018427387904) :
    Calls Tryd.prog 48 #[.agg (l.map nf).toArray, .int .u64 (n : Int)] w fun e w' => e = .returned (.tuple #[.agg ((plTo l n 5).1.map nf).toArray, .int .u64 ((plTo l n 5).2 : Int)]) ∧ Below w.heap.size w w' := by
  go_enter Tryd.func48, Tryd.ntmps48
  go_wp2
  refine from_world (P := Code.wp Tryd.prog _ _ _) (R := fun W => Hid (FB w w.heap.size (w.heap.size + 1) l W)) _ (FB.new1 w l) ?_
  intro W0 hN0
  generalize hg : w.heap.size = g at hN0 ⊢
  generalize hr : g + 1 = r at hN0 ⊢
  go_loopw [6, 9] (fun o i wr => ∃ k x : Nat, k ≤ 5 ∧ i = .int .i64 k ∧ o = .int .u64 (x : Int) ∧ Hid ((plTo l n k).2 = x) ∧ Hid (FB w g r (plTo l n k).1 wr)) (fun _ i _ => 5 - (intOf i).toNat)
  case atStart => exact ⟨0, n, by omega, rfl, rfl, rfl, hN0⟩
  case round =>
    clear hN0
    obtain ⟨k, x, hk, rfl, rfl, hx, hN⟩ := hrel
    by_cases hlt : k < 5
    · have hki : (k : Int) < 5 := by omega
      obtain ⟨a, ha⟩ : ∃ a, atD (plTo l n k).1 k = a := ⟨_, rfl⟩
      obtain ⟨cc, fr⟩ := hN.out.now.word k (by rw [plTo_length]; omega)
      rw [ha] at cc
      have hN1 := (hN.out.set k (a + x)).set k ((a + x) % 2251799813685248)
      rw [List.set_set] at hN1
      have HN1 : Hid (FB w g r (plTo l n (k + 1)).1 ((wr.setCell ⟨g, k, none⟩ (.int .u64 ((a + x : Nat) : Int))).setCell ⟨g, k, none⟩ (.int .u64 (((a + x) % 2251799813685248 : Nat) : Int)))) := by rw [plTo, ha, hx.out]; exact hN1
      have hov := plTo_over l n hb hn k
      rw [hx.out] at hov
      have hab : a < 9223372036854775808 := by rw [← ha, plTo_at l n k k (Nat.le_refl _)]; exact atD_bound l _ (by omega) hb k
      have e1 : IntKind.u64.wrap ((a : Int) + (x : Int)) = ((a + x : Nat) : Int) := by rw [IntKind.wrap_u64]; omega
      have E1 : Hid (IntKind.u64.wrap ((a : Int) + (x : Int)) = ((a + x : Nat) : Int)) := e1
      have E2 : Hid (bits .and .u64 ((a + x : Nat) : Int) 2251799813685247 = (((a + x) % 2251799813685248 : Nat) : Int)) := and51 (a + x) (by omega)
      have E3 : Hid ((plTo l n (k + 1)).2 = (a + x) / 2251799813685248) := by rw [plTo, ha, hx.out]; rfl
      clear hN hN1 e1 hx ha hov hab
      go_wp2
      rw [E1.out, E2.out]
      exact ⟨⟨k + 1, (a + x) / 2251799813685248, by omega, by go_num, by congr 1 <;> omega, E3, HN1⟩, by simp [intOf]; omega⟩
    · have ek : k = 5 := by omega
      subst ek
      have hkr : ¬ ((5 : Nat) : Int) < 5 := by omega
      obtain ⟨m, hm⟩ : ∃ m, (plTo l n 5).1 = m := ⟨_, rfl⟩
      have hml : m.length = 5 := by rw [← hm, plTo_length, hl]
      rw [hm] at hN
      have HM : Hid ((plTo l n 5).1 = m) := hm
      have IB : Hid ((Tryd.prog.info? 41).map (·.size) = some (m.map nf).toArray.size) := nf_info m hml
      have hst := store_row wr r _ _ (m.map nf) hN.out.res (by simp [hml]) (nf_oneCell m)
      have hrow := setRow_heap wr r _ (m.map nf).toArray _ _ hN.out.res
      have HBel : Hid (Below w.heap.size w (wr.setRow r (m.map nf).toArray)) := below_setRow hN.out.bel hN.out.br _
      obtain ⟨W4, hW4⟩ : ∃ W4, wr.setRow r (m.map nf).toArray = W4 := ⟨_, rfl⟩
      rw [hW4] at hst hrow HBel
      have HRow : Hid (W4.heap[r]? = some (.cells (m.map nf).toArray 41 (0, 0))) := hrow
      clear hrow hW4 hm hb
      go_wp2_with (first | refine wpList_load_row rfl 41 _ rfl g rfl 41 _ (0, 0) _ hN.out.now Tryd.underlying41 rfl IB.out ?_)
      (try simp only [Exit.inBlock, Exit.then])
      refine bodyPost_ret (results_cell_slot rfl _ _ r 41 _ (.int .u64 (x : Int)) _ rfl rfl HRow.out Tryd.underlying41 rfl IB.out) rfl ?_
      exact ⟨by rw [HM.out, hx.out], by rw [← hg]; exact HBel.out⟩

set_option maxHeartbeats 1000000 in
set_option maxRecDepth 100000 in
theorem fcarry_any (l : List Nat) (w : World) (hl : l.length = 5) (hb : ∀ x ∈ l, x < 9223372036854775808) :
    Calls Tryd.prog 37 #[.agg (l.map nf).toArray] w fun e w' => e = .returned (.agg ((carF l).map nf).toArray) ∧ Below w.heap.size w w' := by
  have IL : Hid ((Tryd.prog.info? 41).map (·.size) = some (l.map nf).toArray.size) := nf_info l hl
  have HN0 : Hid (FB w w.heap.size (w.heap.size + 1) l ((w.alloc (.cells (l.map nf).toArray 41)).alloc (.cells #[.int .u64 0, .int .u64 0, .int .u64 0, .int .u64 0, .int .u64 0] 41))) := FB.new1 w l
  go_enter Tryd.func37, Tryd.ntmps37
  go_wp2_with (first | refine wpList_load_row rfl 41 _ rfl w.heap.size rfl 41 _ (0, 0) _ HN0.out.now Tryd.underlying41 rfl IL.out ?_ | fail)
  refine (plus_any l 0 _ hl hb (by decide)).mono ?_
  rintro e W1 ⟨rfl, hb1⟩
  have hN1 := HN0.out.later hb1
  obtain ⟨m, hm⟩ : ∃ m, (plTo l 0 5).1 = m := ⟨_, rfl⟩
  obtain ⟨x, hx⟩ : ∃ x, (plTo l 0 5).2 = x := ⟨_, rfl⟩
  have hml : m.length = 5 := by rw [← hm, plTo_length, hl]
  obtain ⟨a, ha⟩ : ∃ a, atD m 0 = a := ⟨_, rfl⟩
  have hc : carF l = m.set 0 (a + 19 * x) := by rw [carF, hm, hx, ha]
  obtain ⟨hab, hxb⟩ : a < 2251799813685248 ∧ x < 16384 := by
    obtain ⟨p0, p1, p2, p3, p4, rfl⟩ := five l hl
    obtain ⟨o0, o1, o2, o3, o4, h0, h1, h2, h3, h4, hp⟩ := plTo_five p0 p1 p2 p3 p4 0
    rw [hp] at hm hx
    simp at hb
    rw [← ha, ← hm, ← hx]
    refine ⟨Nat.mod_lt _ (by decide), ?_⟩
    show o4 < _
    omega
  rw [hm, hx]
  have hst := store_row W1 w.heap.size _ _ (m.map nf) hN1.now (by simp [hml, hl]) (nf_oneCell m)
  have hN2 := hN1.put m
  obtain ⟨W2, hW2⟩ : ∃ W2, W1.setRow w.heap.size (m.map nf).toArray = W2 := ⟨_, rfl⟩
  rw [hW2] at hst hN2
  obtain ⟨cc, fr⟩ := hN2.now.word 0 (by omega)
  rw [ha] at cc
  have hN3 := hN2.set 0 (a + 19 * x)
  have e1 : IntKind.u64.wrap ((a : Int) + 19 * (x : Int)) = ((a + 19 * x : Nat) : Int) := by rw [IntKind.wrap_u64]; omega
  obtain ⟨W3, hW3⟩ : ∃ W3, W2.setCell ⟨w.heap.size, 0, none⟩ (.int .u64 (IntKind.u64.wrap ((a : Int) + 19 * (x : Int)))) = W3 := ⟨_, rfl⟩
  have hN4 : FB w w.heap.size (w.heap.size + 1) (carF l) W3 := by rw [hc, ← hW3, e1]; exact hN3
  obtain ⟨c, hcc⟩ : ∃ c, carF l = c := ⟨_, rfl⟩
  have hcl : c.length = 5 := by rw [← hcc, carF_length, hl]
  rw [hcc] at hN4
  have HC : Hid (carF l = c) := hcc
  have HN4 : Hid (FB w w.heap.size (w.heap.size + 1) c W3) := hN4
  have HW3 : Hid (W2.setCell ⟨w.heap.size, 0, none⟩ (.int .u64 (IntKind.u64.wrap ((a : Int) + 19 * (x : Int)))) = W3) := hW3
  have IC : Hid ((Tryd.prog.info? 41).map (·.size) = some (c.map nf).toArray.size) := nf_info c hcl
  have hst2 := store_row W3 (w.heap.size + 1) _ _ (c.map nf) HN4.out.res (by simp [hcl]) (nf_oneCell c)
  have hrow := setRow_heap W3 (w.heap.size + 1) _ (c.map nf).toArray _ _ HN4.out.res
  have HBel : Hid (Below w.heap.size w (W3.setRow (w.heap.size + 1) (c.map nf).toArray)) := below_setRow HN4.out.bel HN4.out.br _
  obtain ⟨W4, hW4⟩ : ∃ W4, W3.setRow (w.heap.size + 1) (c.map nf).toArray = W4 := ⟨_, rfl⟩
  rw [hW4] at hst2 hrow HBel
  have HRow : Hid (W4.heap[w.heap.size + 1]? = some (.cells (c.map nf).toArray 41 (0, 0))) := hrow
  clear hrow hW4 hN4 hW3 hN3 hN2 hW2 hN1 hm hx ha hc hcc hb hb1 HN0 e1 hab
  go_wp2_with (first | (rw [HW3.out]; refine wpList_load_row rfl 41 _ rfl w.heap.size rfl 41 _ (0, 0) _ HN4.out.now Tryd.underlying41 rfl IC.out ?_))
  (try simp only [Exit.inBlock, Exit.then])
  refine bodyPost_ret (results_cell_row rfl _ _ (w.heap.size + 1) 41 _ (0, 0) _ rfl HRow.out Tryd.underlying41 rfl IC.out) rfl ?_
  exact ⟨by rw [HC.out], HBel.out⟩
end Go.Proofs.YtmdoojfcgbokjaaDoor
