/- Several texts laid together. -/
import Derived.Test.YtdancpcnjklifaaDoorBase
import Derived.Test.YtdancpcnjklifaaDoorMathX
/- The walks over the document's trim and Carry. -/
namespace Go.Proofs.YtdancpcnjklifaaDoor
set_option linter.unusedVariables false
set_option maxRecDepth 100000
open Go.RowKit

/-- A whole number as a value. -/
def iv (x : Nat) : Value := .int .i64 (x : Int)
/-- The whole numbers that a slice leads to. -/
def Ints (w : World) (a : Option Addr) (len : Nat) (l : List Nat) : Prop :=
  l.length = len ∧ (len = 0 ∨ ∃ b off, a = some ⟨b, off, none⟩ ∧ ∀ i, i < len → w.cell? ⟨b, off + i, none⟩ = some (.int .i64 (atD l i : Int)))
theorem Ints.later {w w' : World} {a : Option Addr} {len : Nat} {l : List Nat} (h : Ints w a len l) (hb : Below w.heap.size w w') : Ints w' a len l := by
  refine ⟨h.1, ?_⟩
  rcases h.2 with h0 | ⟨b, off, e, hc⟩
  · exact .inl h0
  · refine .inr ⟨b, off, e, fun i hi => ?_⟩
    have := hc i hi
    rw [hb.cell (p := ⟨b, off + i, none⟩) (World.block_lt_of_cell? w _ this)]
    exact this
theorem Ints.cut {w : World} {a : Option Addr} {len q : Nat} {l : List Nat} (h : Ints w a len l) (hq : q ≤ len) : Ints w a q (l.take q) := by
  have hl := h.1
  refine ⟨by simp; omega, ?_⟩
  rcases h.2 with h0 | ⟨b, off, e, hc⟩
  · exact .inl (by omega)
  · refine .inr ⟨b, off, e, fun i hi => ?_⟩
    rw [hc i (by omega)]
    simp [atD, hi]
theorem Ints.at_ {w : World} {a : Option Addr} {len : Nat} {l : List Nat} (h : Ints w a len l) (k : Nat) (hk : k < len) : ∃ b off, a = some ⟨b, off, none⟩ ∧ w.cell? ⟨b, off + k, none⟩ = some (.int .i64 (atD l k : Int)) := by
  rcases h.2 with h0 | ⟨b, off, e, hc⟩
  · omega
  · exact ⟨b, off, e, hc k hk⟩
theorem iv_oneCell (l : List Nat) : ∀ u ∈ l.map iv, u.oneCell' = true := by
  intro u hu
  simp only [List.mem_map] at hu
  obtain ⟨c, _, rfl⟩ := hu
  rfl
theorem Ints.ofSeg {w : World} {e : TypeId} {a : Option Addr} {n cap : Nat} {l : List Nat} (h : Seg w e a n cap (l.map iv)) : Ints w a n l := by
  have hl : l.length = n := by have := h.1; simpa using this
  refine ⟨hl, ?_⟩
  by_cases h0 : n = 0
  · exact .inl h0
  · obtain ⟨g, off, rfl, _, _⟩ := h.cell 0 (by omega)
    refine .inr ⟨g, off, rfl, fun i hi => ?_⟩
    obtain ⟨g', off', e, hc, _⟩ := h.cell i hi
    cases e
    rw [hc, List.getElem?_map, atD_get l i (by omega)]
    simp [iv, show i < l.length by omega]
theorem Tryd.infoI64 : (Tryd.prog.info? 3).map (fun i => (i.zero, i.size, i.bytes)) = some (some (.int .i64 0), 1, 8) := by kernel_rfl

set_option maxHeartbeats 400000 in
set_option maxRecDepth 100000 in
theorem refTrim_any (a : Option Addr) (len cap : Nat) (l : List Nat) (w : World) (hI : Ints w a len l) (hd : ∀ x ∈ l, x < 256) (hlc : len ≤ cap) (hlm : len ≤ 1000000) :
    Calls Tryd.prog 91 #[.slice a len cap] w fun e w' => ∃ n, e = .returned (.slice a n cap) ∧ w' = w ∧ n ≤ len ∧ l.take n = dig (valD l) := by
  have hl := hI.1
  have HI : Hid (Ints w a len l) := hI
  have HD : Hid (∀ x ∈ l, x < 256) := hd
  clear hI hd
  go_enter Tryd.func91, Tryd.ntmps91
  go_wp2
  go_loop [0] (fun v => ∃ n : Nat, n ≤ len ∧ v = .slice a n cap ∧ Hid (valD (l.take n) = valD l)) (fun v => match v with | .slice _ n _ => n | _ => 0)
  case atStart => exact ⟨len, Nat.le_refl _, rfl, by rw [List.take_of_length_le (by omega)]; exact rfl⟩
  case round =>
    obtain ⟨n, hn, rfl, hV⟩ := hrel
    by_cases h0 : n = 0
    · subst h0
      have HR : Hid (l.take 0 = dig (valD l)) := by have := hV.out; rw [List.take_zero] at this ⊢; rw [← this]; exact dig_zero.symm
      go_wp2
      go_ret
      exact ⟨0, rfl, rfl, by omega, HR.out⟩
    · obtain ⟨m, rfl⟩ : ∃ m, n = m + 1 := ⟨n - 1, by omega⟩
      obtain ⟨b, off, rfl, hc⟩ := HI.out.at_ m (by omega)
      have hpos : (0 : Int) < ((m + 1 : Nat) : Int) := by omega
      have hidx : ((m + 1 : Nat) : Int) - 1 = (m : Int) := by omega
      by_cases hz : atD l m = 0
      · have hzi : (atD l m : Int) = 0 := by omega
        rw [hzi] at hc
        have HV : Hid (valD (l.take m) = valD l) := by
          have := hV.out
          rw [valD_trim l m (by omega) hz] at this
          exact this
        clear hV
        go_wp2
        exact ⟨⟨m, by omega, rfl, HV⟩, by simp⟩
      · have hzi : ¬ (atD l m : Int) = 0 := by omega
        have HR : Hid (l.take (m + 1) = dig (valD l)) := by
          show _ = _
          rw [← hV.out]
          symm
          refine dig_valD _ (fun x hx => HD.out x (List.mem_of_mem_take hx)) (fun x hx => ?_)
          rw [take_snoc l m (by omega)] at hx
          simp at hx
          omega
        clear hV
        go_wp2
        go_ret
        exact ⟨m + 1, rfl, rfl, by omega, HR.out⟩
end Go.Proofs.YtdancpcnjklifaaDoor

/- The walk over the document's Carry. -/
namespace Go.Proofs.YtdancpcnjklifaaDoor
set_option linter.unusedVariables false
set_option maxRecDepth 100000
open Go.RowKit

theorem Ints.cells {w : World} {x : Addr} {m : Nat} {ys : List Nat} (h : Ints w (some x) m ys) : ∀ j v, (ys.map iv)[j]? = some v → w.cell? (x.add j) = some v := by
  intro j v hj
  have hl := h.1
  have hjl : j < ys.length := by
    rcases Nat.lt_or_ge j ys.length with hh | hh
    · exact hh
    · rw [List.getElem?_eq_none (by simpa using hh)] at hj; cases hj
  rcases h.2 with h0 | ⟨b, off, e, hc⟩
  · omega
  · cases e
    rw [addr_add, hc j (by omega), atD_get ys j hjl]
    rw [List.getElem?_map, List.getElem?_eq_getElem hjl] at hj
    simpa [iv] using hj
/-- 'append(out, s...)' of whole numbers. -/
theorem append_ints (w : World) (base : Nat) (v : Value) (n : Nat) (xs : List Nat) (hown : w.ownsRow base 3 1 v n (xs.map iv)) (x : Addr) (m c : Nat) (ys : List Nat) (hs : Ints w (some x) m ys) (hb : base ≤ w.heap.size) (hsm : n + m ≤ 1000000) :
    ∃ v' w', (Builtin.append_ #[119, 119] 119 #[v, .slice (some x) m c]).run Tryd.prog w = .ok v' w' ∧ w'.ownsRow base 3 1 v' (n + m) ((xs ++ ys).map iv) ∧ w.grownBy w' v.ownBlock := by
  obtain ⟨i0, hi, hz0, hz1, hz2⟩ := info_parts Tryd.infoI64
  have hl := hs.1
  obtain ⟨v', w', hr, ho, hg, _⟩ := run_append_own (P := Tryd.prog) w base 119 119 3 i0 (.int .i64 0) 1 8 Tryd.underlying119 hi hz0 hz1 hz2 rfl (by decide) v n _ hown x m c (ys.map iv) (by rw [List.length_map]; omega) hs.cells (iv_oneCell ys) (by unfold maxLen; omega) (by omega) hb
  exact ⟨v', w', hr, by rw [List.map_append]; exact ho, hg⟩
/-- 'append(out, x)'. -/
theorem append_int (w : World) (base : Nat) (v : Value) (n : Nat) (xs : List Nat) (hown : w.ownsRow base 3 1 v n (xs.map iv)) (x : Nat) (hb : base ≤ w.heap.size) (hsm : n ≤ 100000) :
    ∃ v' w', (Builtin.append_ #[119, 119] 119 #[v, .slice (some ⟨w.heap.size, 0, none⟩) 1 1]).run Tryd.prog (w.alloc (.cells #[.int .i64 (x : Int)] 3)) = .ok v' w' ∧ w'.ownsRow base 3 1 v' (n + 1) ((xs ++ [x]).map iv) ∧ w.grownBy w' v.ownBlock := by
  have hs : Ints (w.alloc (.cells #[.int .i64 (x : Int)] 3)) (some ⟨w.heap.size, 0, none⟩) 1 [x] := by
    refine ⟨rfl, .inr ⟨w.heap.size, 0, rfl, fun i hi => ?_⟩⟩
    obtain rfl : i = 0 := by omega
    rw [cell_of_row _ w.heap.size (0 + 0) _ _ (0, 0) (heap_alloc_new w _)]
    simp [atD]
  obtain ⟨v', w', hr, ho, hg⟩ := append_ints (w.alloc (.cells #[.int .i64 (x : Int)] 3)) base v n xs (hown.alloc _) ⟨w.heap.size, 0, none⟩ 1 1 [x] hs (by simp; omega) (by omega)
  refine ⟨v', w', hr, ho, hg.os, hg.tape, hg.output, by have := hg.size; simp at this; omega, fun k hk hne => ?_⟩
  rw [hg.block k (by simp; omega) hne]
  exact Below.heap_alloc w _ k hk
theorem ints_out {w : World} {base : Nat} {v : Value} {n : Nat} {l : List Nat} (h : w.ownsRow base 3 1 v n (l.map iv)) :
    ∃ a cap, v = .slice a n cap ∧ Ints w a n l ∧ n ≤ cap ∧ cap ≤ maxLen := by
  have hl := h.1
  rw [List.length_map, Nat.mul_one] at hl
  rcases h.2 with ⟨e, h0⟩ | ⟨g, cap, cur, rfl, hb, hg, hnc, hcm, hcs, htake⟩
  · refine ⟨none, 0, ?_, ⟨hl, .inl h0⟩, by omega, by unfold maxLen; omega⟩
    rw [e, h0]
  · obtain ⟨a', cap', e, hs, _⟩ := Seg.ofOwn' h
    cases e
    exact ⟨_, cap, rfl, Ints.ofSeg hs, hnc, hcm⟩

/-- Between the digits: those that are done, and what is left. -/
structure Car (l : List Nat) (k left : Nat) (o : List Nat) : Prop where
  lt : ∀ x ∈ o, x < 256
  len : o.length = k
  val : valD o + 256 ^ k * left = valD (l.take k)
  small : left * 256 ^ (k - l.length) ≤ 2 ^ 50
theorem Car.step {l : List Nat} {k left : Nat} {o : List Nat} (h : Car l k left o) (hk : k < l.length) (hb : ∀ x ∈ l, x ≤ 2 ^ 50) : Car l (k + 1) ((left + atD l k) / 256) (o ++ [(left + atD l k) % 256]) := by
  have hx := hb _ (atD_mem l k hk)
  have hs := h.small
  rw [show k - l.length = 0 by omega, Nat.pow_zero, Nat.mul_one] at hs
  refine ⟨?_, by simp [h.len], ?_, ?_⟩
  · intro x hx
    rcases List.mem_append.1 hx with hx | hx
    · exact h.lt x hx
    · simp at hx; omega
  · rw [valD_snoc, h.len, valD_take_succ l k hk, ← h.val, Nat.pow_succ]
    have e : left + atD l k = (left + atD l k) % 256 + 256 * ((left + atD l k) / 256) := by omega
    generalize (left + atD l k) % 256 = r at e ⊢
    generalize (left + atD l k) / 256 = q at e ⊢
    have : 256 ^ k * (left + atD l k) = 256 ^ k * (r + 256 * q) := by rw [e]
    rw [Nat.mul_add, Nat.mul_add, ← Nat.mul_assoc] at this
    omega
  · rw [show k + 1 - l.length = 0 by omega, Nat.pow_zero, Nat.mul_one]
    omega
theorem Car.shift {l : List Nat} {k left : Nat} {o : List Nat} (h : Car l k left o) (hk : l.length ≤ k) : Car l (k + 1) (left / 256) (o ++ [left % 256]) := by
  refine ⟨?_, by simp [h.len], ?_, ?_⟩
  · intro x hx
    rcases List.mem_append.1 hx with hx | hx
    · exact h.lt x hx
    · simp at hx; omega
  · have hv := h.val
    rw [List.take_of_length_le hk] at hv
    rw [valD_snoc, h.len, List.take_of_length_le (by omega), ← hv, Nat.pow_succ]
    have e : left = left % 256 + 256 * (left / 256) := by omega
    have : 256 ^ k * left = 256 ^ k * (left % 256 + 256 * (left / 256)) := by rw [← e]
    rw [Nat.mul_add, ← Nat.mul_assoc] at this
    omega
  · have hs := h.small
    rw [show k + 1 - l.length = (k - l.length) + 1 by omega, Nat.pow_succ]
    have h1 : left / 256 * 256 ≤ left := Nat.div_mul_le_self left 256
    have h2 : left / 256 * (256 ^ (k - l.length) * 256) = (left / 256 * 256) * 256 ^ (k - l.length) := by rw [Nat.mul_comm (256 ^ _) 256, ← Nat.mul_assoc]
    rw [h2]
    exact Nat.le_trans (Nat.mul_le_mul_right _ h1) hs
theorem Car.near {l : List Nat} {k left : Nat} {o : List Nat} (h : Car l k left o) (h0 : 0 < left) : k ≤ l.length + 6 := by
  have hs := h.small
  rcases Nat.lt_or_ge (l.length + 6) k with hh | hh
  · have h1 : 256 ^ 7 ≤ 256 ^ (k - l.length) := Nat.pow_le_pow_right (by decide) (by omega)
    have h2 : 1 * 256 ^ (k - l.length) ≤ left * 256 ^ (k - l.length) := Nat.mul_le_mul_right _ h0
    have h3 : (2 : Nat) ^ 50 < 256 ^ 7 := by decide
    omega
  · exact hh
theorem Car.left_le {l : List Nat} {k left : Nat} {o : List Nat} (h : Car l k left o) : left ≤ 2 ^ 50 :=
  Nat.le_trans (Nat.le_mul_of_pos_right left (Nat.pow_pos (by decide))) h.small

set_option maxHeartbeats 400000 in
set_option maxRecDepth 100000 in
theorem refCarry_any (a : Option Addr) (len cap : Nat) (l : List Nat) (w : World) (hI : Ints w a len l) (hd : ∀ x ∈ l, x ≤ 2 ^ 50) (hlc : len ≤ cap) (hlm : len ≤ 50000) :
    Calls Tryd.prog 92 #[.slice a len cap] w fun e w' => ∃ a' n cap', e = .returned (.slice a' n cap') ∧ Below w.heap.size w w' ∧ Ints w' a' n (dig (valD l)) ∧ n ≤ cap' := by
  have hl := hI.1
  have HI : Hid (Ints w a len l) := hI
  have HD : Hid (∀ x ∈ l, x ≤ 2 ^ 50) := hd
  clear hI hd
  go_enter Tryd.func92, Tryd.ntmps92
  go_wp2
  go_loopw [3, 4, 5] (fun v L i wr => ∃ (k left : Nat) (o : List Nat), i = .int .i64 k ∧ L = .int .i64 left ∧ Hid (k ≤ len + 7) ∧ Hid (Car l k left o) ∧ Hid (wr.ownsRow w.heap.size 3 1 v k (o.map iv)) ∧ Hid (Below w.heap.size w wr)) (fun _ L i _ => (len - (intOf i).toNat) * 2000000000000000 + (intOf L).toNat)
  case atStart =>
    refine ⟨0, 0, [], rfl, rfl, Nat.zero_le _, ⟨by simp, rfl, by simp [valD], by simp⟩, World.ownsRow_made w #[] 0 (Nat.le_refl _) (Nat.zero_le _) rfl, (Below.refl _ _).alloc (Nat.le_refl _) _⟩
  case round =>
    obtain ⟨k, left, o, rfl, rfl, hk7, hC, hO, hW⟩ := hrel
    have hL := hC.out.left_le
    have hL' : left ≤ 1125899906842624 := hL
    clear hL
    have hk7' := hk7.out
    by_cases hlt : k < len
    · obtain ⟨b, off, rfl, hc0⟩ := HI.out.at_ k hlt
      have hc : wr.cell? ⟨b, off + k, none⟩ = some (.int .i64 (atD l k : Int)) := by
        rw [hW.out.cell (p := ⟨b, off + k, none⟩) (World.block_lt_of_cell? w _ hc0)]; exact hc0
      have hx : atD l k ≤ 1125899906842624 := HD.out _ (atD_mem l k (by omega))
      have hki : (k : Int) < (len : Int) := by omega
      obtain ⟨s, hs⟩ : ∃ s, left + atD l k = s := ⟨_, rfl⟩
      have hsi : (left : Int) + (atD l k : Int) = (s : Int) := by omega
      have hC2 := hC.out.step (by omega) HD.out
      rw [hs] at hC2
      have hm : (s : Int).tmod 256 = ((s % 256 : Nat) : Int) := by rw [Int.tmod_eq_emod_of_nonneg (by omega)]; omega
      have hq : (s : Int).tdiv 256 = ((s / 256 : Nat) : Int) := by rw [Int.tdiv_eq_ediv_of_nonneg (by omega)]; omega
      obtain ⟨v2, w2, hap, own2, hg2⟩ := append_int wr w.heap.size _ k o hO.out (s % 256) hW.out.size (by omega)
      have HA : Hid (_) := hap
      have HO2 : Hid (w2.ownsRow w.heap.size 3 1 v2 (k + 1) ((o ++ [s % 256]).map iv)) := own2
      have HW2 : Hid (Below w.heap.size w w2) := hW.out.grown hg2 hW.out.size (fun j hj => (hO.out.lt j hj).1)
      have HC2 : Hid (Car l (k + 1) (s / 256) (o ++ [s % 256])) := hC2
      have hs2 : s / 256 ≤ 8796093022208 := by omega
      clear hap own2 hg2 hC2 hC hO hW hc0
      go_wp2_with (at_builtin; refine wpList_append_run rfl (.tmp 27) (.tmp 30) 119 rfl _ _ _ _ rfl rfl HA.out ?_)
      exact ⟨⟨k + 1, s / 256, _, by go_num, rfl, (by show _ ≤ _; omega), HC2, HO2, HW2⟩, by simp [intOf]; omega⟩
    · have hki : ¬ (k : Int) < (len : Int) := by omega
      by_cases h0 : left = 0
      · subst h0
        have hv : valD o = valD l := by
          have := hC.out.val
          rw [List.take_of_length_le (by omega)] at this
          simpa using this
        obtain ⟨a2, c2, rfl, hI2, hc2, hm2⟩ := ints_out hO.out
        have HLt : Hid (∀ x ∈ o, x < 256) := hC.out.lt
        have HV : Hid (valD o = valD l) := hv
        have HI2 : Hid (Ints wr a2 k o) := hI2
        clear hv hI2 hm2 hC hO
        go_wp2_with fail
        refine (refTrim_any a2 k c2 o wr HI2.out HLt.out hc2 (by omega)).mono ?_
        rintro e w' ⟨n, rfl, rfl, hn, hT⟩
        have HI3 : Hid (Ints w' a2 n (dig (valD l))) := by
          rw [← HV.out, ← hT]
          exact HI2.out.cut hn
        clear hT
        go_wp2
        go_ret
        exact ⟨a2, n, c2, rfl, hW.out, HI3.out, by omega⟩
      · have hpos : (0 : Int) < (left : Int) := by omega
        have hnear := hC.out.near (by omega)
        have hC2 := hC.out.shift (by omega)
        have hm : (left : Int).tmod 256 = ((left % 256 : Nat) : Int) := by rw [Int.tmod_eq_emod_of_nonneg (by omega)]; omega
        have hq : (left : Int).tdiv 256 = ((left / 256 : Nat) : Int) := by rw [Int.tdiv_eq_ediv_of_nonneg (by omega)]; omega
        obtain ⟨v2, w2, hap, own2, hg2⟩ := append_int wr w.heap.size _ k o hO.out (left % 256) hW.out.size (by omega)
        have HA : Hid (_) := hap
        have HO2 : Hid (w2.ownsRow w.heap.size 3 1 v2 (k + 1) ((o ++ [left % 256]).map iv)) := own2
        have HW2 : Hid (Below w.heap.size w w2) := hW.out.grown hg2 hW.out.size (fun j hj => (hO.out.lt j hj).1)
        have HC2 : Hid (Car l (k + 1) (left / 256) (o ++ [left % 256])) := hC2
        have hs2 : left / 256 < left := by omega
        clear hap own2 hg2 hC2 hC hO hW
        go_wp2_with (at_builtin; refine wpList_append_run rfl (.tmp 27) (.tmp 30) 119 rfl _ _ _ _ rfl rfl HA.out ?_)
        exact ⟨⟨k + 1, left / 256, _, by go_num, rfl, (by show _ ≤ _; omega), HC2, HO2, HW2⟩, by simp [intOf]; omega⟩
end Go.Proofs.YtdancpcnjklifaaDoor

/- The walks over the document's Plus and Times. -/
namespace Go.Proofs.YtdancpcnjklifaaDoor
set_option linter.unusedVariables false
set_option maxRecDepth 100000
open Go.RowKit

/-- A whole row of whole numbers in a block. -/
def IRow (w : World) (g : Nat) (o : List Nat) : Prop := w.heap[g]? = some (.cells (o.map iv).toArray 3 (0, 0))
theorem IRow.set {w : World} {g : Nat} {o : List Nat} (h : IRow w g o) (i x : Nat) : IRow (w.setCell ⟨g, i, none⟩ (.int .i64 (x : Int))) g (o.set i x) := by
  have := heap_setCell_same w g i _ _ (iv x) h
  unfold IRow
  rw [List.map_set]
  simpa [iv] using this
theorem IRow.at_ {w : World} {g : Nat} {o : List Nat} (h : IRow w g o) (i : Nat) (hi : i < o.length) : w.cell? ⟨g, i, none⟩ = some (.int .i64 (atD o i : Int)) ∧ w.frozen? ⟨g, i, none⟩ = false := by
  refine ⟨?_, frozen_of_row w g i _ _ h⟩
  rw [cell_of_row w g i _ _ (0, 0) h, atD_get o i hi]
  simp [hi, iv]
theorem IRow.ints {w : World} {g : Nat} {o : List Nat} (h : IRow w g o) : Ints w (some ⟨g, 0, none⟩) o.length o :=
  ⟨rfl, .inr ⟨g, 0, rfl, fun i hi => by rw [Nat.zero_add]; exact (h.at_ i hi).1⟩⟩
/-- 'make([]int, n)'. -/
theorem make_ints (w : World) (n : Nat) (h : n ≤ 2000000) :
    (Instr.makeSlice 119 (.int .i64 (n : Int)) (.int .i64 (n : Int))).run Tryd.prog w = .ok (.slice (some ⟨w.heap.size, 0, none⟩) n n) (w.alloc (.cells ((List.replicate n 0).map iv).toArray 3)) := by
  obtain ⟨i0, hi, hz0, hz1, hz2⟩ := info_parts Tryd.infoI64
  have hr := run_make (P := Tryd.prog) w 119 3 i0 (.int .i64 0) Tryd.underlying119 hi hz0 .i64 .i64 (n : Int) (n : Int) (by omega) (by omega) (by rw [hz2]; omega) (by omega)
  have e1 : ((n : Int)).toNat = n := by omega
  rw [e1, hz1, Nat.mul_one] at hr
  have e : (madeCells (Value.int .i64 0).cells n).toList = List.replicate n (.int .i64 0) := toList_madeCells_one _ _
  have e2 : madeCells (Value.int .i64 0).cells n = ((List.replicate n 0).map iv).toArray := by
    rw [← Array.toList_inj, e]
    simp [iv]
  rw [e2] at hr
  exact hr
/-- A row of the walk's own, and all that was there. -/
structure Mine (w : World) (g : Nat) (o : List Nat) (wr : World) : Prop where
  row : IRow wr g o
  bel : Below w.heap.size w wr
theorem Mine.set {w wr : World} {g : Nat} {o : List Nat} (h : Mine w g o wr) (hg : w.heap.size ≤ g) (i x : Nat) : Mine w g (o.set i x) (wr.drew.setCell ⟨g, i, none⟩ (.int .i64 (x : Int))) :=
  ⟨IRow.set (w := wr.drew) h.row i x, h.bel.drew.setCell hg _⟩
theorem make_mine (w : World) (n : Nat) (h : n ≤ 2000000) :
    ∃ W, (Instr.makeSlice 119 (.int .i64 (n : Int)) (.int .i64 (n : Int))).run Tryd.prog w = .ok (.slice (some ⟨w.heap.size, 0, none⟩) n n) W ∧ Mine w w.heap.size (List.replicate n 0) W :=
  ⟨_, make_ints w n h, heap_alloc_new w _, (Below.refl _ _).alloc (Nat.le_refl _) _⟩

/-- The sum while the first number is laid down. -/
structure PlA (l : List Nat) (n k : Nat) (o : List Nat) : Prop where
  len : o.length = n
  val : valD o = valD (l.take k)
  small : ∀ j, atD o j ≤ 255
  zero : ∀ j, k ≤ j → atD o j = 0
theorem PlA.step {l : List Nat} {n k : Nat} {o : List Nat} (h : PlA l n k o) (hk : k < l.length) (hn : k < n) (hd : ∀ x ∈ l, x < 256) : PlA l n (k + 1) (o.set k (atD o k + atD l k)) := by
  have hx := atD_lt l hd k
  have hz := h.zero k (Nat.le_refl _)
  have hlen := h.len
  refine ⟨by rw [List.length_set]; exact hlen, ?_, fun j => ?_, fun j hj => ?_⟩
  · rw [valD_set o k _ (by omega), h.val, valD_take_succ l k hk]
  · by_cases e : k = j
    · subst e; rw [atD_set_same _ _ _ (by omega)]; omega
    · rw [atD_set_other _ _ _ _ e]; exact h.small j
  · rw [atD_set_other _ _ _ _ (by omega)]; exact h.zero j (by omega)
/-- The sum while the second one is added. -/
structure PlB (l m : List Nat) (n k : Nat) (o : List Nat) : Prop where
  len : o.length = n
  val : valD o = valD l + valD (m.take k)
  small : ∀ j, atD o j ≤ 510
  rest : ∀ j, k ≤ j → atD o j ≤ 255
theorem PlB.step {l m : List Nat} {n k : Nat} {o : List Nat} (h : PlB l m n k o) (hk : k < m.length) (hn : k < n) (hd : ∀ x ∈ m, x < 256) : PlB l m n (k + 1) (o.set k (atD o k + atD m k)) := by
  have hx := atD_lt m hd k
  have hz := h.rest k (Nat.le_refl _)
  have hlen := h.len
  refine ⟨by rw [List.length_set]; exact hlen, ?_, fun j => ?_, fun j hj => ?_⟩
  · rw [valD_set o k _ (by omega), h.val, valD_take_succ m k hk, Nat.add_assoc]
  · by_cases e : k = j
    · subst e; rw [atD_set_same _ _ _ (by omega)]; omega
    · rw [atD_set_other _ _ _ _ e]; exact h.small j
  · rw [atD_set_other _ _ _ _ (by omega)]; exact h.rest j (by omega)
theorem mem_le (o : List Nat) (b : Nat) (h : ∀ j, atD o j ≤ b) : ∀ x ∈ o, x ≤ b := by
  intro x hx
  obtain ⟨i, hi, rfl⟩ := List.mem_iff_getElem.1 hx
  have := h i
  rwa [atD_get o i hi] at this

set_option maxHeartbeats 1000000 in
set_option maxRecDepth 100000 in
theorem refPlus_any (a : Option Addr) (len cap : Nat) (l : List Nat) (b : Option Addr) (lenb capb : Nat) (m : List Nat) (w : World) (hA : Ints w a len l) (hB : Ints w b lenb m) (hdl : ∀ x ∈ l, x < 256) (hdm : ∀ x ∈ m, x < 256) (hlm : len ≤ 20000) (hlb : lenb ≤ 20000) :
    Calls Tryd.prog 78 #[.slice a len cap, .slice b lenb capb] w fun e w' => ∃ a' n cap', e = .returned (.slice a' n cap') ∧ Below w.heap.size w w' ∧ Ints w' a' n (dig (valD l + valD m)) ∧ n ≤ cap' := by
  have hl := hA.1
  have hm := hB.1
  obtain ⟨n, hn⟩ : ∃ n, n = max len lenb := ⟨_, rfl⟩
  have e1 : (if len < lenb then (lenb : Int) else (len : Int)) = (n : Int) := by split <;> omega
  have hn1 : len ≤ n := by omega
  have hn2 : lenb ≤ n := by omega
  have hn3 : n ≤ 20000 := by omega
  clear hn
  obtain ⟨W1, hmk, hM0⟩ := make_mine w n (by omega)
  have HM0 : Hid (Mine w w.heap.size (List.replicate n 0) W1) := hM0
  clear hM0
  have HA : Hid (Ints w a len l) := hA
  have HB : Hid (Ints w b lenb m) := hB
  have HDL : Hid (∀ x ∈ l, x < 256) := hdl
  have HDM : Hid (∀ x ∈ m, x < 256) := hdm
  clear hA hB hdl hdm
  go_enter Tryd.func78, Tryd.ntmps78
  go_wp2
  clear hmk e1
  have HP0 : Hid (PlA l n 0 (List.replicate n 0)) := ⟨by simp, by simp [valD_replicate, valD], fun j => by rw [atD_replicate]; omega, fun j _ => atD_replicate n j⟩
  go_loopw [6] (fun i wr => ∃ (k : Nat) (o : List Nat), k ≤ len ∧ i = .int .i64 k ∧ Hid (PlA l n k o) ∧ Hid (Mine w w.heap.size o wr)) (fun i _ => len - (intOf i).toNat)
  case atStart => exact ⟨0, _, Nat.zero_le _, rfl, HP0, HM0⟩
  case round =>
    clear HP0 HM0
    obtain ⟨k, o, hk, rfl, hP, hM⟩ := hrel
    by_cases hlt : k < len
    · obtain ⟨ba, offa, rfl, hc0⟩ := HA.out.at_ k hlt
      obtain ⟨W, hW⟩ : ∃ W, wr.drew = W := ⟨_, rfl⟩
      have hc : W.cell? ⟨ba, offa + k, none⟩ = some (.int .i64 (atD l k : Int)) := by
        rw [← hW, hM.out.bel.drew.cell (p := ⟨ba, offa + k, none⟩) (World.block_lt_of_cell? w _ hc0)]; exact hc0
      have ho := hP.out.len
      have hd : W.cell? ⟨w.heap.size, k, none⟩ = some (.int .i64 (atD o k : Int)) := by rw [← hW]; exact (hM.out.row.at_ k (by omega)).1
      have hf : W.frozen? ⟨w.heap.size, k, none⟩ = false := by rw [← hW]; exact (hM.out.row.at_ k (by omega)).2
      have hx := atD_lt l HDL.out k
      have hy := hP.out.small k
      have hs : IntKind.i64.wrap ((atD o k : Int) + (atD l k : Int)) = ((atD o k + atD l k : Nat) : Int) := by rw [IntKind.wrap_i64]; omega
      have HP : Hid (PlA l n (k + 1) (o.set k (atD o k + atD l k))) := hP.out.step (by omega) (by omega) HDL.out
      have HM : Hid (Mine w w.heap.size (o.set k (atD o k + atD l k)) (W.setCell ⟨w.heap.size, k, none⟩ (.int .i64 ((atD o k + atD l k : Nat) : Int)))) := by rw [← hW]; exact hM.out.set (Nat.le_refl _) k _
      have i1 : (k : Int) < (len : Int) := by omega
      have i2 : (k : Int) < (n : Int) := by omega
      have HW : Hid (wr.drew = W) := hW
      generalize atD o k + atD l k = s at HM HP hs
      clear hc0 hP hM hW
      go_wp2
      refine wp_region_sched' (G := Stays) (by kernel_rfl) Stays.refl Stays.trans (by kernel_rfl) [(0, true), (1, true), (2, true), (3, true), (4, true), (5, true), (6, true), (7, true), (8, true), (9, true), (10, true), (11, true), (12, false)] rfl (by kernel_rfl) ?_
      intro KK hKK
      rw [HW.out]
      iterate 12 (refine sched_take rfl (by rfl) (v := ?_) ?_ ?_; rotate_left; (rintro w' rfl; go_simp; with_reducible rfl); go_simp)
      refine sched_store rfl (by rfl) (w' := W.setCell ⟨w.heap.size, k, none⟩ (.int .i64 (s : Int))) (by go_simp) (by kernel_rfl) ?_
      go_simp
      refine sched_done hKK ?_
      go_wp2
      exact ⟨⟨k + 1, _, by omega, by go_num, HP, HM⟩, by simp [intOf]; omega⟩
    · have ek : k = len := by omega
      have hki : ¬ (k : Int) < (len : Int) := by omega
      have HQ0 : Hid (PlB l m n 0 o) := by
        have hv := hP.out.val
        rw [List.take_of_length_le (by omega)] at hv
        exact ⟨hP.out.len, by rw [hv]; simp [valD], fun j => by have := hP.out.small j; omega, fun j _ => hP.out.small j⟩
      clear hP
      go_wp2
      go_loopw [7] (fun i wr => ∃ (k : Nat) (o : List Nat), k ≤ lenb ∧ i = .int .i64 k ∧ Hid (PlB l m n k o) ∧ Hid (Mine w w.heap.size o wr)) (fun i _ => lenb - (intOf i).toNat)
      case atStart => exact ⟨0, _, Nat.zero_le _, rfl, HQ0, hM⟩
      case round =>
        clear HQ0 hM
        obtain ⟨k, o, hk, rfl, hP, hM⟩ := hrel
        by_cases hlt : k < lenb
        · obtain ⟨ba, offa, rfl, hc0⟩ := HB.out.at_ k hlt
          obtain ⟨W, hW⟩ : ∃ W, wr.drew = W := ⟨_, rfl⟩
          have hc : W.cell? ⟨ba, offa + k, none⟩ = some (.int .i64 (atD m k : Int)) := by
            rw [← hW, hM.out.bel.drew.cell (p := ⟨ba, offa + k, none⟩) (World.block_lt_of_cell? w _ hc0)]; exact hc0
          have ho := hP.out.len
          have hd : W.cell? ⟨w.heap.size, k, none⟩ = some (.int .i64 (atD o k : Int)) := by rw [← hW]; exact (hM.out.row.at_ k (by omega)).1
          have hf : W.frozen? ⟨w.heap.size, k, none⟩ = false := by rw [← hW]; exact (hM.out.row.at_ k (by omega)).2
          have hx := atD_lt m HDM.out k
          have hy := hP.out.small k
          have hs : IntKind.i64.wrap ((atD o k : Int) + (atD m k : Int)) = ((atD o k + atD m k : Nat) : Int) := by rw [IntKind.wrap_i64]; omega
          have HP : Hid (PlB l m n (k + 1) (o.set k (atD o k + atD m k))) := hP.out.step (by omega) (by omega) HDM.out
          have HM : Hid (Mine w w.heap.size (o.set k (atD o k + atD m k)) (W.setCell ⟨w.heap.size, k, none⟩ (.int .i64 ((atD o k + atD m k : Nat) : Int)))) := by rw [← hW]; exact hM.out.set (Nat.le_refl _) k _
          have i1 : (k : Int) < (lenb : Int) := by omega
          have i2 : (k : Int) < (n : Int) := by omega
          have HW : Hid (wr.drew = W) := hW
          generalize atD o k + atD m k = s at HM HP hs
          clear hc0 hP hM hW
          go_wp2
          refine wp_region_sched' (G := Stays) (by kernel_rfl) Stays.refl Stays.trans (by kernel_rfl) [(0, true), (1, true), (2, true), (3, true), (4, true), (5, true), (6, true), (7, true), (8, true), (9, true), (10, true), (11, true), (12, false)] rfl (by kernel_rfl) ?_
          intro KK hKK
          rw [HW.out]
          iterate 12 (refine sched_take rfl (by rfl) (v := ?_) ?_ ?_; rotate_left; (rintro w' rfl; go_simp; with_reducible rfl); go_simp)
          refine sched_store rfl (by rfl) (w' := W.setCell ⟨w.heap.size, k, none⟩ (.int .i64 (s : Int))) (by go_simp) (by kernel_rfl) ?_
          go_simp
          refine sched_done hKK ?_
          go_wp2
          exact ⟨⟨k + 1, _, by omega, by go_num, HP, HM⟩, by simp [intOf]; omega⟩
        · have ek2 : k = lenb := by omega
          have hki2 : ¬ (k : Int) < (lenb : Int) := by omega
          have HV : Hid (valD o = valD l + valD m) := by
            have hv := hP.out.val
            rw [List.take_of_length_le (by omega)] at hv
            exact hv
          have HI : Hid (Ints wr (some ⟨w.heap.size, 0, none⟩) n o) := by
            have := hM.out.row.ints
            rwa [hP.out.len] at this
          have HS : Hid (∀ x ∈ o, x ≤ 2 ^ 50) := fun x hx => Nat.le_trans (mem_le o 510 hP.out.small x hx) (by decide)
          clear hP
          go_wp2_with fail
          refine (refCarry_any _ n n o wr HI.out HS.out (Nat.le_refl _) (by omega)).mono ?_
          rintro e w2 ⟨a2, n2, c2, rfl, hb2, hI2, hc2⟩
          have HR : Hid (Ints w2 a2 n2 (dig (valD l + valD m))) := by rw [← HV.out]; exact hI2
          have HB2 : Hid (Below w.heap.size w w2) := hM.out.bel.trans (hb2.mono hM.out.bel.size)
          clear hI2 hb2
          go_wp2
          go_ret
          exact ⟨a2, n2, c2, rfl, HB2.out, HR.out, hc2⟩
end Go.Proofs.YtdancpcnjklifaaDoor

/- The walk over the document's Times. -/
namespace Go.Proofs.YtdancpcnjklifaaDoor
set_option linter.unusedVariables false
set_option maxRecDepth 100000
open Go.RowKit

/-- The product, as far as it is. -/
structure Tim (l m : List Nat) (i k : Nat) (o : List Nat) : Prop where
  len : o.length = l.length + m.length
  val : valD o = valD (l.take i) * valD m + 256 ^ i * atD l i * valD (m.take k)
  small : ∀ j, atD o j ≤ (i * m.length + k) * 65025
theorem Tim.step {l m : List Nat} {i k : Nat} {o : List Nat} (h : Tim l m i k o) (hi : i < l.length) (hk : k < m.length) (hl : ∀ x ∈ l, x < 256) (hm : ∀ x ∈ m, x < 256) : Tim l m i (k + 1) (o.set (i + k) (atD o (i + k) + atD l i * atD m k)) := by
  have h1 := atD_lt l hl i
  have h2 := atD_lt m hm k
  have hp : atD l i * atD m k ≤ 255 * 255 := Nat.mul_le_mul (by omega) (by omega)
  have hlen := h.len
  have hs : (i * m.length + (k + 1)) * 65025 = (i * m.length + k) * 65025 + 65025 := by rw [← Nat.add_assoc, Nat.add_mul (i * m.length + k) 1]
  refine ⟨by rw [List.length_set]; exact hlen, ?_, fun j => ?_⟩
  · rw [valD_set o (i + k) _ (by omega), h.val, valD_take_succ m k hk, Nat.mul_add, Nat.add_assoc]
    congr 2
    rw [Nat.pow_add, Nat.mul_assoc, Nat.mul_assoc, Nat.mul_left_comm (256 ^ k)]
  · rw [hs]
    have hsm := h.small
    generalize (i * m.length + k) * 65025 = B at hsm
    generalize atD l i * atD m k = t at hp
    by_cases e : i + k = j
    · subst e; rw [atD_set_same _ _ _ (by omega)]; have := hsm (i + k); omega
    · rw [atD_set_other _ _ _ _ e]; have := hsm j; omega
theorem Tim.next {l m : List Nat} {i : Nat} {o : List Nat} (h : Tim l m i m.length o) (hi : i < l.length) : Tim l m (i + 1) 0 o := by
  refine ⟨h.len, ?_, fun j => ?_⟩
  · have hv := h.val
    rw [List.take_of_length_le (Nat.le_refl _)] at hv
    rw [hv, valD_take_succ l i hi, Nat.add_mul]
    simp [valD]
  · have := h.small j
    rw [Nat.add_zero, Nat.add_mul i 1, Nat.one_mul]
    exact this

set_option maxHeartbeats 1000000 in
set_option maxRecDepth 100000 in
theorem refTimes_any (a : Option Addr) (len cap : Nat) (l : List Nat) (b : Option Addr) (lenb capb : Nat) (m : List Nat) (w : World) (hA : Ints w a len l) (hB : Ints w b lenb m) (hdl : ∀ x ∈ l, x < 256) (hdm : ∀ x ∈ m, x < 256) (hlm : len ≤ 10000) (hlb : lenb ≤ 10000) :
    Calls Tryd.prog 77 #[.slice a len cap, .slice b lenb capb] w fun e w' => ∃ a' n cap', e = .returned (.slice a' n cap') ∧ Below w.heap.size w w' ∧ Ints w' a' n (dig (valD l * valD m)) ∧ n ≤ cap' := by
  have hl := hA.1
  have hm := hB.1
  obtain ⟨n, hn⟩ : ∃ n, len + lenb = n := ⟨_, rfl⟩
  have e1 : (len : Int) + (lenb : Int) = (n : Int) := by omega
  have hn3 : n ≤ 20000 := by omega
  obtain ⟨W1, hmk, hM0⟩ := make_mine w n (by omega)
  have HM0 : Hid (Mine w w.heap.size (List.replicate n 0) W1) := hM0
  clear hM0
  have HA : Hid (Ints w a len l) := hA
  have HB : Hid (Ints w b lenb m) := hB
  have HDL : Hid (∀ x ∈ l, x < 256) := hdl
  have HDM : Hid (∀ x ∈ m, x < 256) := hdm
  clear hA hB hdl hdm
  have HT0 : Hid (Tim l m 0 0 (List.replicate n 0)) := ⟨by simp; omega, by simp [valD_replicate, valD], fun j => by rw [atD_replicate]; omega⟩
  go_enter Tryd.func77, Tryd.ntmps77
  go_wp2
  clear hmk e1
  go_loopw [6] (fun i wr => ∃ (k : Nat) (o : List Nat), k ≤ len ∧ i = .int .i64 k ∧ Hid (Tim l m k 0 o) ∧ Hid (Mine w w.heap.size o wr)) (fun i _ => len - (intOf i).toNat)
  case atStart => exact ⟨0, _, Nat.zero_le _, rfl, HT0, HM0⟩
  case round =>
    clear HT0 HM0
    obtain ⟨i, o, hi, rfl, hT, hM⟩ := hrel
    by_cases hlt : i < len
    · have hii : (i : Int) < (len : Int) := by omega
      go_wp2
      go_loopw [7] (fun v wr => ∃ (k : Nat) (o : List Nat), k ≤ lenb ∧ v = .int .i64 k ∧ Hid (Tim l m i k o) ∧ Hid (Mine w w.heap.size o wr)) (fun v _ => lenb - (intOf v).toNat)
      case atStart => exact ⟨0, _, Nat.zero_le _, rfl, hT, hM⟩
      case round =>
        clear hT hM
        obtain ⟨k, o, hk, rfl, hT, hM⟩ := hrel
        by_cases hlk : k < lenb
        · obtain ⟨ba, offa, rfl, hc0⟩ := HA.out.at_ i hlt
          obtain ⟨bb, offb, rfl, hc1⟩ := HB.out.at_ k hlk
          obtain ⟨W, hW⟩ : ∃ W, wr.drew = W := ⟨_, rfl⟩
          obtain ⟨p, hp⟩ : ∃ p, i + k = p := ⟨_, rfl⟩
          have hca : W.cell? ⟨ba, offa + i, none⟩ = some (.int .i64 (atD l i : Int)) := by
            rw [← hW, hM.out.bel.drew.cell (p := ⟨ba, offa + i, none⟩) (World.block_lt_of_cell? w _ hc0)]; exact hc0
          have hcb : W.cell? ⟨bb, offb + k, none⟩ = some (.int .i64 (atD m k : Int)) := by
            rw [← hW, hM.out.bel.drew.cell (p := ⟨bb, offb + k, none⟩) (World.block_lt_of_cell? w _ hc1)]; exact hc1
          have ho := hT.out.len
          have hd : W.cell? ⟨w.heap.size, p, none⟩ = some (.int .i64 (atD o p : Int)) := by rw [← hW]; exact (hM.out.row.at_ p (by omega)).1
          have hf : W.frozen? ⟨w.heap.size, p, none⟩ = false := by rw [← hW]; exact (hM.out.row.at_ p (by omega)).2
          have hx := atD_lt l HDL.out i
          have hy := atD_lt m HDM.out k
          have hz := hT.out.small p
          have hxy : atD l i * atD m k ≤ 255 * 255 := Nat.mul_le_mul (by omega) (by omega)
          have hik : i * m.length ≤ 10000 * 10000 := Nat.mul_le_mul (by omega) (by omega)
          have hs1 : IntKind.i64.wrap ((i : Int) + (k : Int)) = (p : Int) := by rw [IntKind.wrap_i64]; omega
          have hs2 : IntKind.i64.wrap ((atD l i : Int) * (atD m k : Int)) = ((atD l i * atD m k : Nat) : Int) := by
            rw [IntKind.wrap_i64, ← Int.natCast_mul]; omega
          have hs3 : IntKind.i64.wrap ((atD o p : Int) + ((atD l i * atD m k : Nat) : Int)) = ((atD o p + atD l i * atD m k : Nat) : Int) := by
            rw [IntKind.wrap_i64]; omega
          have HT : Hid (Tim l m i (k + 1) (o.set p (atD o p + atD l i * atD m k))) := by rw [← hp]; exact hT.out.step (by omega) (by omega) HDL.out HDM.out
          have HM : Hid (Mine w w.heap.size (o.set p (atD o p + atD l i * atD m k)) (W.setCell ⟨w.heap.size, p, none⟩ (.int .i64 ((atD o p + atD l i * atD m k : Nat) : Int)))) := by rw [← hW]; exact hM.out.set (Nat.le_refl _) p _
          have i2 : (k : Int) < (lenb : Int) := by omega
          have i3 : (p : Int) < (n : Int) := by omega
          have HW : Hid (wr.drew = W) := hW
          generalize atD o p + atD l i * atD m k = s at HM HT hs3
          generalize atD l i * atD m k = t at hs2 hs3
          clear hc0 hc1 hT hM hW hz hxy hik hp
          go_wp2
          refine wp_region_sched' (G := Stays) (by kernel_rfl) Stays.refl Stays.trans (by kernel_rfl) [(0, true), (1, true), (2, true), (3, true), (4, true), (5, true), (6, true), (7, true), (8, true), (9, true), (10, true), (11, true), (12, true), (13, true), (14, true), (15, true), (16, true), (17, true), (18, true), (19, true), (20, true), (21, false)] rfl (by kernel_rfl) ?_
          intro KK hKK
          rw [HW.out]
          iterate 21 (refine sched_take rfl (by rfl) (v := ?_) ?_ ?_; rotate_left; (rintro w' rfl; go_simp; with_reducible rfl); go_simp)
          refine sched_store rfl (by rfl) (w' := W.setCell ⟨w.heap.size, p, none⟩ (.int .i64 (s : Int))) (by go_simp) (by kernel_rfl) ?_
          go_simp
          refine sched_done hKK ?_
          go_wp2
          exact ⟨⟨k + 1, _, by omega, by go_num, HT, HM⟩, by simp [intOf]; omega⟩
        · have ek2 : k = lenb := by omega
          have hki2 : ¬ (k : Int) < (lenb : Int) := by omega
          have HT2 : Hid (Tim l m (i + 1) 0 o) := by
            have := hT.out
            rw [ek2, ← hm] at this
            exact this.next (by omega)
          clear hT
          go_wp2
          exact ⟨⟨i + 1, o, by omega, by go_num, HT2, hM⟩, by simp [intOf]; omega⟩
    · have ek : i = len := by omega
      have hki : ¬ (i : Int) < (len : Int) := by omega
      have HV : Hid (valD o = valD l * valD m) := by
        have hv := hT.out.val
        rw [List.take_of_length_le (by omega)] at hv
        show _ = _
        simpa [valD] using hv
      have HI : Hid (Ints wr (some ⟨w.heap.size, 0, none⟩) n o) := by
        have := hM.out.row.ints
        rwa [hT.out.len, hl, hm, hn] at this
      have HS : Hid (∀ x ∈ o, x ≤ 2 ^ 50) := fun x hx => by
        have h1 := mem_le o _ hT.out.small x hx
        have h2 : i * m.length ≤ 10000 * 10000 := Nat.mul_le_mul (by omega) (by omega)
        omega
      clear hT
      go_wp2_with fail
      refine (refCarry_any _ n n o wr HI.out HS.out (Nat.le_refl _) (by omega)).mono ?_
      rintro e w2 ⟨a2, n2, c2, rfl, hb2, hI2, hc2⟩
      have HR : Hid (Ints w2 a2 n2 (dig (valD l * valD m))) := by rw [← HV.out]; exact hI2
      have HB2 : Hid (Below w.heap.size w w2) := hM.out.bel.trans (hb2.mono hM.out.bel.size)
      clear hI2 hb2
      go_wp2
      go_ret
      exact ⟨a2, n2, c2, rfl, HB2.out, HR.out, hc2⟩
end Go.Proofs.YtdancpcnjklifaaDoor

/- The walk over the document's Parts. -/
namespace Go.Proofs.YtdancpcnjklifaaDoor
set_option linter.unusedVariables false
set_option maxRecDepth 100000
open Go.RowKit

/-- Two rows of the walk's own that grow beside each other. -/
structure Two (w : World) (a1 : Option Addr) (n1 c1 : Nat) (lo : List Nat) (a2 : Option Addr) (n2 c2 : Nat) (hi : List Nat) (wr : World) : Prop where
  s1 : Seg wr 3 a1 n1 c1 (lo.map iv)
  s2 : Seg wr 3 a2 n2 c2 (hi.map iv)
  ne : ∀ j, blockOf a1 = some j → blockOf a2 ≠ some j
  b1 : ∀ j, blockOf a1 = some j → w.heap.size ≤ j
  b2 : ∀ j, blockOf a2 = some j → w.heap.size ≤ j
  bel : Below w.heap.size w wr
theorem Two.swap {w wr : World} {a1 a2 : Option Addr} {n1 c1 n2 c2 : Nat} {lo hi : List Nat} (h : Two w a1 n1 c1 lo a2 n2 c2 hi wr) : Two w a2 n2 c2 hi a1 n1 c1 lo wr :=
  ⟨h.s2, h.s1, fun j h2 h1 => h.ne j h1 h2, h.b2, h.b1, h.bel⟩
theorem Two.app {w wr : World} {a1 a2 : Option Addr} {n1 c1 n2 c2 : Nat} {lo hi : List Nat} (h : Two w a1 n1 c1 lo a2 n2 c2 hi wr) (x : Nat) (hn : n1 ≤ 100000) :
    ∃ a' c' w2, (Builtin.append_ #[119, 119] 119 #[.slice a1 n1 c1, .slice (some ⟨wr.heap.size, 0, none⟩) 1 1]).run Tryd.prog (wr.alloc (.cells #[.int .i64 (x : Int)] 3)) = .ok (.slice a' (n1 + 1) c') w2 ∧ Two w a' (n1 + 1) c' (lo ++ [x]) a2 n2 c2 hi w2 := by
  obtain ⟨i0, hi0, hz0, hz1, hz2⟩ := info_parts Tryd.infoI64
  obtain ⟨a', c', w2, hr, hs, hg, hfr, hsz⟩ := append_seg (P := Tryd.prog) 119 119 3 i0 (.int .i64 0) 8 Tryd.underlying119 hi0 hz0 hz1 hz2 rfl wr a1 n1 c1 _ h.s1 (.int .i64 (x : Int)) rfl (by unfold maxLen; omega) (by omega)
  refine ⟨a', c', w2, hr, by rw [List.map_append]; exact hs, h.s2.kept fun g hg2 => hg.block g (h.s2.lt g hg2) (fun e => h.ne g e.symm hg2), ?_, ?_, h.b2, h.bel.grown hg h.bel.size h.b1⟩
  · intro j hj h2
    rcases hfr with e | e
    · exact h.ne j (by rw [← e]; exact hj) h2
    · have := e j hj
      have := h.s2.lt j h2
      omega
  · intro j hj
    rcases hfr with e | e
    · exact h.b1 j (by rw [← e]; exact hj)
    · have := e j hj
      have := h.bel.size
      omega
theorem Two.new (w : World) : Two w (some ⟨w.heap.size, 0, none⟩) 0 0 [] (some ⟨w.heap.size + 1, 0, none⟩) 0 0 [] ((w.alloc (.cells #[] 3)).alloc (.cells #[] 3)) := by
  refine ⟨⟨rfl, .inr ⟨w.heap.size, 0, #[], rfl, ?_, by simp, Nat.le_refl _, fun i hi => by omega⟩⟩, ⟨rfl, .inr ⟨w.heap.size + 1, 0, #[], rfl, ?_, by simp, Nat.le_refl _, fun i hi => by omega⟩⟩, ?_, ?_, ?_, ((Below.refl _ _).alloc (Nat.le_refl _) _).alloc (by simp) _⟩
  · rw [Below.heap_alloc _ _ _ (by simp)]; exact heap_alloc_new w _
  · have := heap_alloc_new (w.alloc (.cells #[] 3)) (.cells #[] 3)
    rwa [World.size_alloc] at this
  · intro j h1 h2
    simp [blockOf] at h1 h2
    omega
  · intro j h1; simp [blockOf] at h1; omega
  · intro j h1; simp [blockOf] at h1; omega

theorem Two.caps1 {w wr : World} {a1 a2 : Option Addr} {n1 c1 n2 c2 : Nat} {lo hi : List Nat} (h : Two w a1 n1 c1 lo a2 n2 c2 hi wr) : n1 ≤ c1 := by
  rcases h.s1.2 with ⟨_, h0, _⟩ | ⟨_, _, _, _, _, _, h0, _⟩ <;> omega
/-- A digit of what is above the cut, by two digits. -/
theorem high_at (l : List Nat) (hl : ∀ x ∈ l, x < 256) (q b k : Nat) (hb : b < 8) (hk : q ≤ k) : valD l / 2 ^ (8 * q + b) / 256 ^ (k - q) % 256 = atD l k / 2 ^ b + atD l (k + 1) * 2 ^ (8 - b) % 256 := by
  rw [high_digit _ _ _ _ hb, show q + (k - q) = k by omega, valD_at l hl, valD_at l hl]
theorem shl_one (b : Nat) (hb : b < 8) : (2 : Nat) ^ b ≤ 128 := by
  have := Nat.pow_le_pow_right (n := 2) (by decide) (show b ≤ 7 by omega)
  simpa using this

set_option maxHeartbeats 1000000 in
set_option maxRecDepth 100000 in
theorem refParts_any (a : Option Addr) (len cap : Nat) (l : List Nat) (q b : Nat) (w : World) (hA : Ints w a len l) (hdl : ∀ x ∈ l, x < 256) (hlm : len ≤ 20000) (hb : b < 8) (hq : q ≤ 10000) :
    Calls Tryd.prog 90 #[.slice a len cap, .int .i64 ((8 * q + b : Nat) : Int)] w fun e w' => ∃ a1 n1 c1 a2 n2 c2, e = .returned (.tuple #[.slice a1 n1 c1, .slice a2 n2 c2]) ∧ Below w.heap.size w w' ∧
      Ints w' a1 n1 (dig (valD l % 2 ^ (8 * q + b))) ∧ n1 ≤ c1 ∧ Ints w' a2 n2 (dig (valD l / 2 ^ (8 * q + b))) ∧ n2 ≤ c2 := by
  have hl := hA.1
  obtain ⟨N, hN⟩ : ∃ N, 8 * q + b = N := ⟨_, rfl⟩
  rw [hN]
  have e1 : (N : Int).tdiv 8 = (q : Int) := by rw [Int.tdiv_eq_ediv_of_nonneg (by omega)]; omega
  have e2 : (N : Int).tmod 8 = (b : Int) := by rw [Int.tmod_eq_emod_of_nonneg (by omega)]; omega
  have HT0 := Two.new w
  obtain ⟨c, hc8⟩ : ∃ c, 8 - b = c := ⟨_, rfl⟩
  have hci : (8 : Int) - (b : Int) = (c : Int) := by omega
  have hcp : 0 < c := by omega
  have hc9 : c ≤ 8 := by omega
  obtain ⟨P, hPn⟩ : ∃ P, 2 ^ b = P := ⟨_, rfl⟩
  have hPb : P ≤ 128 := by rw [← hPn]; exact shl_one b hb
  have hP0 : 0 < P := by rw [← hPn]; exact Nat.two_pow_pos b
  have hPi : (2 : Int) ^ b = (P : Int) := by rw [← hPn]; simp
  obtain ⟨C, hCn⟩ : ∃ C, 2 ^ c = C := ⟨_, rfl⟩
  have hCb : C ≤ 256 := by rw [← hCn]; exact (Nat.pow_le_pow_right (by decide) hc9 : 2 ^ c ≤ 2 ^ 8)
  have hCi : (2 : Int) ^ c = (C : Int) := by rw [← hCn]; simp
  have HA : Hid (Ints w a len l) := hA
  have HDL : Hid (∀ x ∈ l, x < 256) := hdl
  clear hA hdl
  go_enter Tryd.func90, Tryd.ntmps90
  go_wp2
  clear e1 e2
  go_loopw [6, 7, 10] (fun v1 v2 i wr => ∃ (k n1 c1 n2 c2 : Nat) (a1 a2 : Option Addr), k ≤ len ∧ i = .int .i64 k ∧ v1 = .slice a1 n1 c1 ∧ v2 = .slice a2 n2 c2 ∧ Hid (n1 = min k (q + 1)) ∧ Hid (n2 = k - q) ∧ Hid (Two w a1 n1 c1 (firstD (valD l % 2 ^ N) n1) a2 n2 c2 (firstD (valD l / 2 ^ N) n2) wr)) (fun _ _ i _ => len - (intOf i).toNat)
  case atStart => exact ⟨0, 0, 0, 0, 0, _, _, Nat.zero_le _, rfl, rfl, rfl, (by show _ = _; omega), (by show _ = _; omega), HT0⟩
  case round =>
    clear HT0
    obtain ⟨k, n1, c1, n2, c2, a1, a2, hk, rfl, rfl, rfl, h1, h2, hT⟩ := hrel
    have h1' := h1.out
    have h2' := h2.out
    by_cases hlt : k < len
    · obtain ⟨ba, offa, rfl, hc0⟩ := HA.out.at_ k hlt
      have hc : wr.cell? ⟨ba, offa + k, none⟩ = some (.int .i64 (atD l k : Int)) := by
        rw [hT.out.bel.cell (p := ⟨ba, offa + k, none⟩) (World.block_lt_of_cell? w _ hc0)]; exact hc0
      have hx := atD_lt l HDL.out k
      have hki : (k : Int) < (len : Int) := by omega
      by_cases hkq : k < q
      · have hkqi : (k : Int) < (q : Int) := by omega
        obtain ⟨a3, c3, w3, hap, hT3⟩ := hT.out.app (atD l k) (by omega)
        have HA3 : Hid (_) := hap
        have e1 : n1 = k := by omega
        have HE : Hid (firstD (valD l % 2 ^ N) n1 ++ [atD l k] = firstD (valD l % 2 ^ N) (n1 + 1)) := by
          show _ = _
          rw [firstD_succ, e1, ← hN, low_digit _ _ _ _ hkq, valD_at l HDL.out]
        rw [HE.out] at hT3
        have HT3 : Hid (Two w a3 (n1 + 1) c3 (firstD (valD l % 2 ^ N) (n1 + 1)) a2 n2 c2 (firstD (valD l / 2 ^ N) n2) w3) := hT3
        clear hap hT3 hT hc0 h1' h2' HE e1
        go_wp2_with (at_builtin; refine wpList_append_run rfl (.tmp 27) (.tmp 32) 119 rfl _ _ _ _ rfl rfl HA3.out ?_)
        exact ⟨⟨k + 1, n1 + 1, c3, n2, c2, a3, a2, by omega, by go_num, rfl, rfl, (by have := h1.out; show _ = _; omega), (by have := h2.out; show _ = _; omega), HT3⟩, by simp [intOf]; omega⟩
      · have hkqi : ¬ (k : Int) < (q : Int) := by omega
        by_cases hkq2 : k = q
        · subst hkq2
          have e1 : n1 = k := by omega
          obtain ⟨r, hr⟩ : ∃ r, atD l k % P = r := ⟨_, rfl⟩
          have hrb : r ≤ 255 := by rw [← hr]; exact Nat.le_trans (Nat.mod_le _ _) (by omega)
          have fr1 : (atD l k : Int) % (P : Int) = (r : Int) := by rw [← hr]; simp
          have fr2 : (atD l k : Int).tmod (P : Int) = (r : Int) := by rw [Int.tmod_eq_emod_of_nonneg (by omega)]; exact fr1
          obtain ⟨a3, c3, w3, hap, hT3⟩ := hT.out.app r (by omega)
          have HA3 : Hid (_) := hap
          have HE : Hid (firstD (valD l % 2 ^ N) n1 ++ [r] = firstD (valD l % 2 ^ N) (n1 + 1)) := by
            show _ = _
            rw [firstD_succ, e1, ← hN, cut_digit _ _ _ hb, valD_at l HDL.out, hPn, hr]
          rw [HE.out] at hT3
          have HT3 : Hid (Two w a3 (n1 + 1) c3 (firstD (valD l % 2 ^ N) (n1 + 1)) a2 n2 c2 (firstD (valD l / 2 ^ N) n2) w3) := hT3
          have hcw : w3.cell? ⟨ba, offa + k, none⟩ = some (.int .i64 (atD l k : Int)) := by
            rw [HT3.out.bel.cell (p := ⟨ba, offa + k, none⟩) (World.block_lt_of_cell? w _ hc0)]; exact hc0
          clear hap hT3 hT hc0 HE e1 hr
          obtain ⟨x1, hx1⟩ : ∃ x1, atD l k / P = x1 := ⟨_, rfl⟩
          have f1 : (atD l k : Int) / (P : Int) = (x1 : Int) := by rw [← hx1]; simp
          have hx1b : x1 ≤ 255 := by rw [← hx1]; exact Nat.le_trans (Nat.div_le_self _ _) (by omega)
          have HZ : Hid (valD l / 2 ^ N / 256 ^ n2 % 256 = x1 + atD l (k + 1) * C % 256) := by
            show _ = _
            rw [← hN, h2', high_at l HDL.out _ b k hb (by omega), hPn, hx1, hc8, hCn]
          by_cases hkl : k + 1 < len
          · obtain ⟨ba2, offa2, e, hc2⟩ := HA.out.at_ (k + 1) hkl
            cases e
            have hc3 : w3.cell? ⟨ba, offa + (k + 1), none⟩ = some (.int .i64 (atD l (k + 1) : Int)) := by
              rw [HT3.out.bel.cell (p := ⟨ba, offa + (k + 1), none⟩) (World.block_lt_of_cell? w _ hc2)]; exact hc2
            have hy := atD_lt l HDL.out (k + 1)
            obtain ⟨y1, hy1⟩ : ∃ y1, atD l (k + 1) * C = y1 := ⟨_, rfl⟩
            have hy1b : y1 ≤ 65280 := by rw [← hy1]; exact Nat.mul_le_mul (show atD l (k + 1) ≤ 255 by omega) hCb
            have f2 : (atD l (k + 1) : Int) * (C : Int) = (y1 : Int) := by rw [← hy1]; simp
            obtain ⟨y2, hy2⟩ : ∃ y2, y1 % 256 = y2 := ⟨_, rfl⟩
            have hy2b : y2 ≤ 255 := by omega
            have f3 : (y1 : Int).tmod 256 = (y2 : Int) := by rw [Int.tmod_eq_emod_of_nonneg (by omega)]; omega
            have f3' : (y1 : Int) % 256 = (y2 : Int) := by omega
            obtain ⟨z, hz⟩ : ∃ z, x1 + y2 = z := ⟨_, rfl⟩
            have hzb : z ≤ 510 := by omega
            have f4 : (x1 : Int) + (y2 : Int) = (z : Int) := by omega
            have hkl1 : (k : Int) + 1 < (len : Int) := by omega
            obtain ⟨a5, c5, w5, hap5, hT5⟩ := HT3.out.swap.app z (by omega)
            have HA5 : Hid (_) := hap5
            have HT5 : Hid (Two w a3 (n1 + 1) c3 (firstD (valD l % 2 ^ N) (n1 + 1)) a5 (n2 + 1) c5 (firstD (valD l / 2 ^ N) (n2 + 1)) w5) := by
              have := hT5.swap
              rw [firstD_succ (valD l / 2 ^ N) n2, HZ.out, hy1, hy2, hz]
              exact this
            clear hap5 hT5 hc2 h1' h2' HZ hx1 hy1 hy2 hz HT3
            go_wp2_with (at_builtin; first | refine wpList_append_run rfl (.tmp 37) (.tmp 46) 119 rfl _ _ _ _ rfl rfl HA3.out ?_ | refine wpList_append_run rfl (.tmp 72) (.tmp 74) 119 rfl _ _ _ _ rfl rfl HA5.out ?_)
            exact ⟨⟨k + 1, (n1 + 1), c3, n2 + 1, c5, a3, a5, by omega, by go_num, rfl, rfl, (by have := h1.out; show _ = _; omega), (by have := h2.out; show _ = _; omega), HT5⟩, by simp [intOf]; omega⟩
          · have hkl1 : ¬ (k : Int) + 1 < (len : Int) := by omega
            have h0 : atD l (k + 1) = 0 := atD_out l (k + 1) (by omega)
            obtain ⟨a5, c5, w5, hap5, hT5⟩ := HT3.out.swap.app x1 (by omega)
            have HA5 : Hid (_) := hap5
            have HT5 : Hid (Two w a3 (n1 + 1) c3 (firstD (valD l % 2 ^ N) (n1 + 1)) a5 (n2 + 1) c5 (firstD (valD l / 2 ^ N) (n2 + 1)) w5) := by
              have := hT5.swap
              rw [firstD_succ (valD l / 2 ^ N) n2, HZ.out, h0, Nat.zero_mul]
              exact this
            clear hap5 hT5 h1' h2' HZ hx1 h0 HT3
            go_wp2_with (at_builtin; first | refine wpList_append_run rfl (.tmp 37) (.tmp 46) 119 rfl _ _ _ _ rfl rfl HA3.out ?_ | refine wpList_append_run rfl (.tmp 72) (.tmp 74) 119 rfl _ _ _ _ rfl rfl HA5.out ?_)
            exact ⟨⟨k + 1, (n1 + 1), c3, n2 + 1, c5, a3, a5, by omega, by go_num, rfl, rfl, (by have := h1.out; show _ = _; omega), (by have := h2.out; show _ = _; omega), HT5⟩, by simp [intOf]; omega⟩
        · have hne : ¬ (k : Int) = (q : Int) := by omega
          clear hc0
          obtain ⟨x1, hx1⟩ : ∃ x1, atD l k / P = x1 := ⟨_, rfl⟩
          have f1 : (atD l k : Int) / (P : Int) = (x1 : Int) := by rw [← hx1]; simp
          have hx1b : x1 ≤ 255 := by rw [← hx1]; exact Nat.le_trans (Nat.div_le_self _ _) (by omega)
          have HZ : Hid (valD l / 2 ^ N / 256 ^ n2 % 256 = x1 + atD l (k + 1) * C % 256) := by
            show _ = _
            rw [← hN, h2', high_at l HDL.out _ b k hb (by omega), hPn, hx1, hc8, hCn]
          by_cases hkl : k + 1 < len
          · obtain ⟨ba2, offa2, e, hc2⟩ := HA.out.at_ (k + 1) hkl
            cases e
            have hc3 : wr.cell? ⟨ba, offa + (k + 1), none⟩ = some (.int .i64 (atD l (k + 1) : Int)) := by
              rw [hT.out.bel.cell (p := ⟨ba, offa + (k + 1), none⟩) (World.block_lt_of_cell? w _ hc2)]; exact hc2
            have hy := atD_lt l HDL.out (k + 1)
            obtain ⟨y1, hy1⟩ : ∃ y1, atD l (k + 1) * C = y1 := ⟨_, rfl⟩
            have hy1b : y1 ≤ 65280 := by rw [← hy1]; exact Nat.mul_le_mul (show atD l (k + 1) ≤ 255 by omega) hCb
            have f2 : (atD l (k + 1) : Int) * (C : Int) = (y1 : Int) := by rw [← hy1]; simp
            obtain ⟨y2, hy2⟩ : ∃ y2, y1 % 256 = y2 := ⟨_, rfl⟩
            have hy2b : y2 ≤ 255 := by omega
            have f3 : (y1 : Int).tmod 256 = (y2 : Int) := by rw [Int.tmod_eq_emod_of_nonneg (by omega)]; omega
            have f3' : (y1 : Int) % 256 = (y2 : Int) := by omega
            obtain ⟨z, hz⟩ : ∃ z, x1 + y2 = z := ⟨_, rfl⟩
            have hzb : z ≤ 510 := by omega
            have f4 : (x1 : Int) + (y2 : Int) = (z : Int) := by omega
            have hkl1 : (k : Int) + 1 < (len : Int) := by omega
            obtain ⟨a5, c5, w5, hap5, hT5⟩ := hT.out.swap.app z (by omega)
            have HA5 : Hid (_) := hap5
            have HT5 : Hid (Two w a1 n1 c1 (firstD (valD l % 2 ^ N) n1) a5 (n2 + 1) c5 (firstD (valD l / 2 ^ N) (n2 + 1)) w5) := by
              have := hT5.swap
              rw [firstD_succ (valD l / 2 ^ N) n2, HZ.out, hy1, hy2, hz]
              exact this
            clear hap5 hT5 hc2 h1' h2' HZ hx1 hy1 hy2 hz hT
            go_wp2_with (at_builtin; first | refine wpList_append_run rfl (.tmp 72) (.tmp 74) 119 rfl _ _ _ _ rfl rfl HA5.out ?_)
            exact ⟨⟨k + 1, n1, c1, n2 + 1, c5, a1, a5, by omega, by go_num, rfl, rfl, (by have := h1.out; show _ = _; omega), (by have := h2.out; show _ = _; omega), HT5⟩, by simp [intOf]; omega⟩
          · have hkl1 : ¬ (k : Int) + 1 < (len : Int) := by omega
            have h0 : atD l (k + 1) = 0 := atD_out l (k + 1) (by omega)
            obtain ⟨a5, c5, w5, hap5, hT5⟩ := hT.out.swap.app x1 (by omega)
            have HA5 : Hid (_) := hap5
            have HT5 : Hid (Two w a1 n1 c1 (firstD (valD l % 2 ^ N) n1) a5 (n2 + 1) c5 (firstD (valD l / 2 ^ N) (n2 + 1)) w5) := by
              have := hT5.swap
              rw [firstD_succ (valD l / 2 ^ N) n2, HZ.out, h0, Nat.zero_mul]
              exact this
            clear hap5 hT5 h1' h2' HZ hx1 h0 hT
            go_wp2_with (at_builtin; first | refine wpList_append_run rfl (.tmp 72) (.tmp 74) 119 rfl _ _ _ _ rfl rfl HA5.out ?_)
            exact ⟨⟨k + 1, n1, c1, n2 + 1, c5, a1, a5, by omega, by go_num, rfl, rfl, (by have := h1.out; show _ = _; omega), (by have := h2.out; show _ = _; omega), HT5⟩, by simp [intOf]; omega⟩
    · have hki : ¬ (k : Int) < (len : Int) := by omega
      have ek : k = len := by omega
      have hxlt : valD l < 256 ^ len := by rw [← hl]; exact valD_lt l HDL.out
      have HLo : Hid (valD (firstD (valD l % 2 ^ N) n1) = valD l % 2 ^ N) := by
        refine valD_firstD_all _ _ ?_
        by_cases hle : len ≤ q + 1
        · rw [h1', ek, Nat.min_eq_left hle]
          exact Nat.lt_of_le_of_lt (Nat.mod_le _ _) hxlt
        · rw [h1', ek, Nat.min_eq_right (by omega)]
          refine Nat.lt_of_lt_of_le (Nat.mod_lt _ (Nat.two_pow_pos _)) ?_
          rw [pow256, ← hN]
          exact Nat.pow_le_pow_right (by decide) (by omega)
      have HHi : Hid (valD (firstD (valD l / 2 ^ N) n2) = valD l / 2 ^ N) := by
        refine valD_firstD_all _ _ ?_
        rw [Nat.div_lt_iff_lt_mul (Nat.two_pow_pos _)]
        refine Nat.lt_of_lt_of_le hxlt ?_
        rw [pow256, pow256, ← Nat.pow_add]
        exact Nat.pow_le_pow_right (by decide) (by omega)
      have hI1 : Ints wr a1 n1 (firstD (valD l % 2 ^ N) n1) := Ints.ofSeg hT.out.s1
      have hI2 : Ints wr a2 n2 (firstD (valD l / 2 ^ N) n2) := Ints.ofSeg hT.out.s2
      have hn1c := hT.out.caps1
      have hn2c := hT.out.swap.caps1
      have HI1 : Hid (Ints wr a1 n1 (firstD (valD l % 2 ^ N) n1)) := hI1
      have HI2 : Hid (Ints wr a2 n2 (firstD (valD l / 2 ^ N) n2)) := hI2
      have hn1k : n1 ≤ 20000 := by omega
      have hn2k : n2 ≤ 20000 := by omega
      clear h1' h2' hI1 hI2 hxlt
      go_wp2_with fail
      refine (refTrim_any a1 n1 c1 _ wr HI1.out (firstD_lt _ _) hn1c (by omega)).mono ?_
      rintro e w5 ⟨m1, rfl, rfl, hm1, hR1⟩
      have HR1 : Hid (Ints w5 a1 m1 (dig (valD l % 2 ^ N))) := by
        rw [HLo.out] at hR1
        rw [← hR1]
        exact HI1.out.cut hm1
      clear hR1
      go_wp2_with fail
      refine (refTrim_any a2 n2 c2 _ w5 HI2.out (firstD_lt _ _) hn2c (by omega)).mono ?_
      rintro e w6 ⟨m2, rfl, rfl, hm2, hR2⟩
      have HR2 : Hid (Ints w6 a2 m2 (dig (valD l / 2 ^ N))) := by
        rw [HHi.out] at hR2
        rw [← hR2]
        exact HI2.out.cut hm2
      clear hR2
      go_wp2
      go_ret2
      exact ⟨a1, m1, c1, a2, m2, c2, rfl, hT.out.bel, HR1.out, by omega, HR2.out, by omega⟩
end Go.Proofs.YtdancpcnjklifaaDoor

/- The walks over the document's Mod, Number and Bytes. -/
namespace Go.Proofs.YtdancpcnjklifaaDoor
set_option linter.unusedVariables false
set_option maxRecDepth 100000
open Go.RowKit

/-- The number that a slice of digits leads to, read out of memory. -/
def rdInts (wr : World) : Value → Nat
  | .slice (some x) n _ => valD ((List.range n).map fun i => match wr.cell? ⟨x.block, x.off + i, none⟩ with | some (.int _ z) => z.toNat | _ => 0)
  | _ => 0
theorem Ints.rd {w : World} {a : Option Addr} {n c : Nat} {l : List Nat} (h : Ints w a n l) : rdInts w (.slice a n c) = valD l := by
  have hl := h.1
  rcases h.2 with h0 | ⟨b, off, rfl, hc⟩
  · subst h0
    obtain rfl : l = [] := List.eq_nil_of_length_eq_zero hl
    cases a <;> simp [rdInts, valD]
  · show valD ((List.range n).map fun i => match w.cell? ⟨b, off + i, none⟩ with | some (.int _ z) => z.toNat | _ => 0) = valD l
    congr 1
    apply List.ext_getElem
    · simp [hl]
    · intro i h1 h2
      have hi : i < n := by omega
      simp only [List.getElem_map, List.getElem_range, hc i hi, Int.toNat_natCast]
      exact atD_get l i h2
theorem ints_one (w : World) (x : Nat) : Ints (w.alloc (.cells #[.int .i64 (x : Int)] 3)) (some ⟨w.heap.size, 0, none⟩) 1 [x] := by
  refine ⟨rfl, .inr ⟨w.heap.size, 0, rfl, fun i hi => ?_⟩⟩
  obtain rfl : i = 0 := by omega
  rw [cell_of_row _ w.heap.size (0 + 0) _ _ (0, 0) (heap_alloc_new w _)]
  simp [atD]
/-- The parts of a number, put together again by what 2 to the power is. -/
theorem fold_mod (x p less : Nat) (h : less ≤ p) : (x % p + x / p * less) % (p - less) = x % (p - less) := by
  have e : x = (x % p + x / p * less) + x / p * (p - less) := by
    rw [Nat.add_assoc, ← Nat.mul_add, show less + (p - less) = p by omega, Nat.mul_comm (x / p) p]
    have := Nat.div_add_mod x p
    omega
  have e2 : x % (p - less) = ((x % p + x / p * less) + x / p * (p - less)) % (p - less) := by rw [← e]
  rw [e2, Nat.mul_comm (x / p) (p - less), Nat.add_mul_mod_self_left]
theorem fold_lt (x p less : Nat) (h : less < p) (hx : 0 < x / p) : x % p + x / p * less < x := by
  have h1 := Nat.div_add_mod x p
  have h2 : x / p * less < x / p * p := Nat.mul_lt_mul_of_pos_left h hx
  rw [Nat.mul_comm (x / p) p] at h2
  omega

/-- From round to round: the digits, what they are modulo the modulus, and that they get no more. -/
structure Mo (x M len : Nat) (l : List Nat) : Prop where
  lt : ∀ c ∈ l, c < 256
  le : l.length ≤ len
  val : valD l < 256 ^ len
  mod : valD l % M = x % M

set_option maxHeartbeats 2000000 in
set_option maxRecDepth 100000 in
theorem refMod_any (a : Option Addr) (len cap : Nat) (l : List Nat) (q b less : Nat) (w : World) (hA : Ints w a len l) (hdl : ∀ x ∈ l, x < 256) (hlc : len ≤ cap) (hlm : len ≤ 5000) (hb : b < 8) (hq : q ≤ 1000) (hq1 : 2 ≤ q) (hs0 : 0 < less) (hs : less < 256) :
    Calls Tryd.prog 76 #[.slice a len cap, .int .i64 ((8 * q + b : Nat) : Int), .int .i64 (less : Int)] w fun e w' => ∃ a' n cap', e = .returned (.slice a' n cap') ∧ Below w.heap.size w w' ∧ Ints w' a' n (dig (valD l % (2 ^ (8 * q + b) - less))) ∧ n ≤ cap' := by
  have hl := hA.1
  obtain ⟨p, hp⟩ : ∃ p, 2 ^ (8 * q + b) = p := ⟨_, rfl⟩
  have hp1 : 65536 ≤ p := by rw [← hp]; exact (Nat.pow_le_pow_right (by decide) (show 16 ≤ 8 * q + b by omega) : 2 ^ 16 ≤ 2 ^ (8 * q + b))
  have hpn : p < 256 ^ (q + 1) := by rw [← hp, pow256]; exact Nat.pow_lt_pow_right (by decide) (by omega)
  have HPn : Hid (p < 256 ^ (q + 1)) := hpn
  have HP : Hid (2 ^ (8 * q + b) = p) := hp
  rw [hp]
  obtain ⟨x, hx⟩ : ∃ x, valD l = x := ⟨_, rfl⟩
  rw [hx]
  obtain ⟨M, hM⟩ : ∃ M, p - less = M := ⟨_, rfl⟩
  rw [hM]
  have HM : Hid (p - less = M) := hM
  have HI0 : Hid (Ints w a len l) := hA
  have HM0 : Hid (Mo x M len l) := ⟨hdl, by omega, by rw [← hl]; exact valD_lt l hdl, by rw [hx]⟩
  obtain ⟨N, hN⟩ : ∃ N, 8 * q + b = N := ⟨_, rfl⟩
  have HN : Hid (8 * q + b = N) := hN
  rw [hN]
  have hNb : N ≤ 8007 := by omega
  clear hA hdl hp hx hM hN hpn
  go_enter Tryd.func76, Tryd.ntmps76
  go_wp2
  go_loopw [0] (fun v wr => ∃ (n' c' : Nat) (a' : Option Addr) (l' : List Nat), v = .slice a' n' c' ∧ n' ≤ c' ∧ Hid (Ints wr a' n' l') ∧ Hid (Mo x M len l') ∧ Hid (Below w.heap.size w wr)) (fun v wr => rdInts wr v)
  case atStart => exact ⟨len, cap, a, l, rfl, hlc, HI0, HM0, Below.refl _ _⟩
  case round =>
    clear HI0 HM0
    obtain ⟨n', c', a', l', rfl, hnc', hI, hMo, hW⟩ := hrel
    have hln : l'.length = n' := hI.out.1
    have hnl : n' ≤ len := by have := hMo.out.le; omega
    obtain ⟨x', hx'⟩ : ∃ x', valD l' = x' := ⟨_, rfl⟩
    have HX' : Hid (valD l' = x') := hx'
    have HRd : Hid (rdInts wr (.slice a' n' c') = x') := by rw [← hx']; exact hI.out.rd
    clear hx'
    go_wp2_with fail
    have hcall := refParts_any a' n' c' l' q b wr hI.out hMo.out.lt (by omega) hb (by omega)
    rw [HN.out, HX'.out] at hcall
    refine hcall.mono ?_
    clear hcall
    rintro e w1 ⟨a1, n1, c1, a2, n2, c2, rfl, hb1, hI1, hn1, hI2, hn2⟩
    rw [show 2 ^ N = p by rw [← HN.out]; exact HP.out] at hI1 hI2
    have HI1 : Hid (Ints w1 a1 n1 (dig (x' % p))) := hI1
    have HI2 : Hid (Ints w1 a2 n2 (dig (x' / p))) := hI2
    have HW1 : Hid (Below w.heap.size w w1) := hW.out.trans (hb1.mono hW.out.size)
    have HIw : Hid (Ints w1 a' n' l') := hI.out.later hb1
    have hl1 : (dig (x' % p)).length = n1 := hI1.1
    have hl2 : (dig (x' / p)).length = n2 := hI2.1
    have hxl : x' < 256 ^ len := by rw [← HX'.out]; exact hMo.out.val
    have hn1b : n1 ≤ len := by rw [← hl1]; exact dig_length_le _ _ (Nat.lt_of_le_of_lt (Nat.mod_le _ _) hxl)
    have hn2b : n2 ≤ len := by rw [← hl2]; exact dig_length_le _ _ (Nat.lt_of_le_of_lt (Nat.div_le_self _ _) hxl)
    have HXL : Hid (x' < 256 ^ len) := hxl
    have HL2 : Hid ((dig (x' / p)).length = n2) := hl2
    clear hb1 hI1 hI2 hl1 hl2 hxl
    by_cases h0 : n2 = 0
    · have hx'p : x' < p := by
        have h1 := HL2.out
        rw [h0, dig_length_zero] at h1
        exact (Nat.div_eq_zero_iff.1 h1).resolve_left (by omega)
      have HXM : Hid (x' % M = x % M) := by rw [← HX'.out]; exact hMo.out.mod
      have HXP : Hid (x' < p) := hx'p
      have HLt : Hid (∀ c ∈ l', c < 256) := hMo.out.lt
      subst h0
      clear hx'p hI hMo hW HL2 HI1 HI2 hn1b hn2b
      go_wp2_with fail
      refine (refPlus_any a' n' c' l' (some ⟨w1.heap.size, 0, none⟩) 1 1 [less] _ (HIw.out.later ((Below.refl _ _).alloc (Nat.le_refl _) _)) (ints_one w1 less) HLt.out (by simp; omega) (by omega) (by omega)).mono ?_
      rintro e w2 ⟨a3, n3, c3, rfl, hb2, hI3, hn3⟩
      rw [HX'.out, show valD [less] = less by simp [valD]] at hI3
      have hb2' : Below w1.heap.size w1 w2 := ((Below.refl _ _).alloc (Nat.le_refl _) _).trans (hb2.mono (by simp))
      have HI3 : Hid (Ints w2 a3 n3 (dig (x' + less))) := hI3
      have HIw2 : Hid (Ints w2 a' n' l') := HIw.out.later hb2'
      have HW2 : Hid (Below w.heap.size w w2) := HW1.out.trans (hb2'.mono HW1.out.size)
      have hn3b : n3 ≤ q + 2 := by
        have h1 : (dig (x' + less)).length = n3 := hI3.1
        rw [← h1]
        refine dig_length_le _ _ ?_
        have h2 := HXP.out
        have h3 := HPn.out
        rw [Nat.pow_succ]
        omega
      clear hb2 hb2' hI3 HIw HW1
      go_wp2_with fail
      have hcall := refParts_any a3 n3 c3 _ q b w2 HI3.out (dig_lt _) (by omega) hb (by omega)
      rw [HN.out, valD_dig] at hcall
      refine hcall.mono ?_
      clear hcall
      rintro e w3 ⟨a4, n4, c4, a5, n5, c5, rfl, hb3, hI4, hn4, hI5, hn5⟩
      rw [show 2 ^ N = p by rw [← HN.out]; exact HP.out] at hI4 hI5
      have hl5 : (dig ((x' + less) / p)).length = n5 := hI5.1
      have HIw3 : Hid (Ints w3 a' n' l') := HIw2.out.later hb3
      have HW3 : Hid (Below w.heap.size w w3) := HW2.out.trans (hb3.mono HW2.out.size)
      clear hb3 hI4 hI5 HIw2 HW2 HI3
      by_cases h5 : n5 = 0
      · have hlow : x' < M := by
          rw [h5, dig_length_zero, Nat.div_eq_zero_iff] at hl5
          have := HM.out
          omega
        have HR : Hid (x % M = x') := by rw [← HXM.out]; exact Nat.mod_eq_of_lt hlow
        have h5i : (n5 : Int) = 0 := by omega
        subst h5
        clear hlow hl5
        go_wp2_with fail
        refine (refTrim_any a' n' c' l' w3 HIw3.out HLt.out hnc' (by omega)).mono ?_
        rintro e w4 ⟨m, rfl, rfl, hm, hR⟩
        have HR2 : Hid (Ints w4 a' m (dig (x % M))) := by
          rw [HR.out, ← HX'.out, ← hR]
          exact HIw3.out.cut hm
        clear hR
        go_wp2
        go_ret
        exact ⟨a', m, c', rfl, HW3.out, HR2.out, by omega⟩
      · have hhigh : p ≤ x' + less := by
          rcases Nat.lt_or_ge (x' + less) p with h1 | h1
          · exact absurd ((dig_length_zero _).2 (Nat.div_eq_of_lt h1)) (by rw [hl5]; exact h5)
          · exact h1
        have HR : Hid (x % M = (x' + less) % p) := by
          show _ = _
          have h1 := HM.out
          have h2 := HXP.out
          rw [← HXM.out]
          have e1 : (x' + less) % p = x' + less - p := by rw [Nat.mod_eq_sub_mod hhigh, Nat.mod_eq_of_lt (by omega)]
          have e2 : x' % M = x' - M := by rw [Nat.mod_eq_sub_mod (by omega), Nat.mod_eq_of_lt (by omega)]
          rw [e1, e2]
          omega
        have h5i : (0 : Int) < (n5 : Int) := by omega
        have h5j : ¬ (n5 : Int) = 0 := by omega
        clear hhigh hl5
        go_wp2_with fail
        refine (refPlus_any a' n' c' l' (some ⟨w3.heap.size, 0, none⟩) 1 1 [less] _ (HIw3.out.later ((Below.refl _ _).alloc (Nat.le_refl _) _)) (ints_one w3 less) HLt.out (by simp; omega) (by omega) (by omega)).mono ?_
        rintro e w4 ⟨a6, n6, c6, rfl, hb4, hI6, hn6⟩
        rw [HX'.out, show valD [less] = less by simp [valD]] at hI6
        have hb4' : Below w3.heap.size w3 w4 := ((Below.refl _ _).alloc (Nat.le_refl _) _).trans (hb4.mono (by simp))
        have HI6 : Hid (Ints w4 a6 n6 (dig (x' + less))) := hI6
        have HW4 : Hid (Below w.heap.size w w4) := HW3.out.trans (hb4'.mono HW3.out.size)
        have hn6b : n6 ≤ q + 2 := by
          have h1 : (dig (x' + less)).length = n6 := hI6.1
          rw [← h1]
          refine dig_length_le _ _ ?_
          have h2 := HXP.out
          have h3 := HPn.out
          rw [Nat.pow_succ]
          omega
        clear hb4 hb4' hI6 HIw3 HW3
        go_wp2_with fail
        have hcall := refParts_any a6 n6 c6 _ q b w4 HI6.out (dig_lt _) (by omega) hb (by omega)
        rw [HN.out, valD_dig] at hcall
        refine hcall.mono ?_
        clear hcall
        rintro e w5 ⟨a7, n7, c7, a8, n8, c8, rfl, hb5, hI7, hn7, hI8, hn8⟩
        rw [show 2 ^ N = p by rw [← HN.out]; exact HP.out] at hI7
        have HI7 : Hid (Ints w5 a7 n7 (dig (x % M))) := by rw [HR.out]; exact hI7
        have HW5 : Hid (Below w.heap.size w w5) := HW4.out.trans (hb5.mono HW4.out.size)
        clear hb5 hI7 hI8 HW4 HI6
        go_wp2
        go_ret
        exact ⟨a7, n7, c7, rfl, HW5.out, HI7.out, hn7⟩
    · have hpos : 0 < x' / p := by
        rcases Nat.eq_zero_or_pos (x' / p) with h1 | h1
        · exact absurd ((dig_length_zero _).2 h1) (by rw [HL2.out]; exact h0)
        · exact h1
      have h0i : ¬ (n2 : Int) = 0 := by omega
      have HFm : Hid ((x' % p + x' / p * less) % M = x % M) := by
        show _ = _
        rw [← HM.out, fold_mod x' p less (by omega), ← HX'.out, HM.out]
        exact hMo.out.mod
      have HFl : Hid (x' % p + x' / p * less < x') := fold_lt x' p less (by omega) hpos
      clear hpos hI hMo hW HL2 HIw
      go_wp2_with fail
      refine (refTimes_any a2 n2 c2 _ (some ⟨w1.heap.size, 0, none⟩) 1 1 [less] _ (HI2.out.later ((Below.refl _ _).alloc (Nat.le_refl _) _)) (ints_one w1 less) (dig_lt _) (by simp; omega) (by omega) (by omega)).mono ?_
      rintro e w2 ⟨a3, n3, c3, rfl, hb2, hI3, hn3⟩
      rw [valD_dig, show valD [less] = less by simp [valD]] at hI3
      have hb2' : Below w1.heap.size w1 w2 := ((Below.refl _ _).alloc (Nat.le_refl _) _).trans (hb2.mono (by simp))
      have HI3 : Hid (Ints w2 a3 n3 (dig (x' / p * less))) := hI3
      have HI1' : Hid (Ints w2 a1 n1 (dig (x' % p))) := HI1.out.later hb2'
      have HW2 : Hid (Below w.heap.size w w2) := HW1.out.trans (hb2'.mono HW1.out.size)
      have hn3b : n3 ≤ len := by
        have h1 : (dig (x' / p * less)).length = n3 := hI3.1
        rw [← h1]
        refine dig_length_le _ _ ?_
        have h2 := HFl.out
        have h3 := HXL.out
        omega
      clear hb2 hb2' hI3 HI1 HI2 HW1
      go_wp2_with fail
      refine (refPlus_any a1 n1 c1 _ a3 n3 c3 _ _ HI1'.out HI3.out (dig_lt _) (dig_lt _) (by omega) (by omega)).mono ?_
      rintro e w3 ⟨a4, n4, c4, rfl, hb3, hI4, hn4⟩
      rw [valD_dig, valD_dig] at hI4
      have HI4 : Hid (Ints w3 a4 n4 (dig (x' % p + x' / p * less))) := hI4
      have HW3 : Hid (Below w.heap.size w w3) := HW2.out.trans (hb3.mono HW2.out.size)
      have HMo4 : Hid (Mo x M len (dig (x' % p + x' / p * less))) := by
        have h2 := HFl.out
        have h3 := HXL.out
        refine ⟨dig_lt _, dig_length_le _ _ (by omega), by rw [valD_dig]; omega, by rw [valD_dig]; exact HFm.out⟩
      clear hb3 hI4 HI3 HI1' HW2
      go_wp2
      refine ⟨⟨n4, c4, a4, _, rfl, hn4, HI4, HMo4, HW3⟩, ?_⟩
      have hm : rdInts w3 (.slice a4 n4 c4) < rdInts wr (.slice a' n' c') := by
        rw [HRd.out, HI4.out.rd, valD_dig]
        exact HFl.out
      simpa using hm

set_option maxHeartbeats 400000 in
set_option maxRecDepth 100000 in
theorem refNumber_any (a : Option Addr) (len cap : Nat) (l : List UInt8) (w : World) (hA : Byt w a len l) (hlm : len ≤ 20000) :
    Calls Tryd.prog 79 #[.slice a len cap] w fun e w' => ∃ a' n cap', e = .returned (.slice a' n cap') ∧ Below w.heap.size w w' ∧ Ints w' a' n (dig (leN l)) ∧ n ≤ cap' := by
  have hl := hA.1
  have HA : Hid (Byt w a len l) := hA
  clear hA
  go_enter Tryd.func79, Tryd.ntmps79
  go_wp2
  go_loopw [3, 4] (fun v i wr => ∃ k : Nat, k ≤ len ∧ i = .int .i64 k ∧ Hid (wr.ownsRow w.heap.size 3 1 v k (((l.take k).map fun c => c.toNat).map iv)) ∧ Hid (Below w.heap.size w wr)) (fun _ i _ => len - (intOf i).toNat)
  case atStart =>
    refine ⟨0, Nat.zero_le _, rfl, World.ownsRow_made w #[] 0 (Nat.le_refl _) (Nat.zero_le _) rfl, (Below.refl _ _).alloc (Nat.le_refl _) _⟩
  case round =>
    obtain ⟨k, hk, rfl, hO, hW⟩ := hrel
    by_cases hlt : k < len
    · obtain ⟨b, off, rfl, hc0⟩ := HA.out.at_ k hlt
      have hc : wr.cell? ⟨b, off + k, none⟩ = some (.int .u8 ((at8 l k).toNat : Int)) := by
        rw [hW.out.cell (p := ⟨b, off + k, none⟩) (World.block_lt_of_cell? w _ hc0)]; exact hc0
      have hx := (at8 l k).toNat_lt
      have hki : (k : Int) < (len : Int) := by omega
      obtain ⟨v2, w2, hap, own2, hg2⟩ := append_int wr w.heap.size _ k _ hO.out (at8 l k).toNat hW.out.size (by omega)
      have HA2 : Hid (_) := hap
      have HO2 : Hid (w2.ownsRow w.heap.size 3 1 v2 (k + 1) (((l.take (k + 1)).map fun c => c.toNat).map iv)) := by
        rw [take_at l k (by omega), List.map_append]
        exact own2
      have HW2 : Hid (Below w.heap.size w w2) := hW.out.grown hg2 hW.out.size (fun j hj => (hO.out.lt j hj).1)
      clear hap own2 hg2 hO hW hc0
      go_wp2_with (at_builtin; refine wpList_append_run rfl (.tmp 12) (.tmp 18) 119 rfl _ _ _ _ rfl rfl HA2.out ?_)
      exact ⟨⟨k + 1, by omega, by go_num, HO2, HW2⟩, by simp [intOf]; omega⟩
    · have hki : ¬ (k : Int) < (len : Int) := by omega
      obtain ⟨a2, c2, rfl, hI2, hc2, hm2⟩ := ints_out hO.out
      rw [List.take_of_length_le (by omega)] at hI2
      have HI2 : Hid (Ints wr a2 k (l.map fun c => c.toNat)) := hI2
      have HLt : Hid (∀ x ∈ l.map (fun c : UInt8 => c.toNat), x < 256) := by
        intro x hx
        simp only [List.mem_map] at hx
        obtain ⟨c, _, rfl⟩ := hx
        exact c.toNat_lt
      clear hI2 hm2 hO
      go_wp2_with fail
      refine (refTrim_any a2 k c2 _ wr HI2.out HLt.out hc2 (by omega)).mono ?_
      rintro e w' ⟨n, rfl, rfl, hn, hT⟩
      rw [valD_bytes] at hT
      have HI3 : Hid (Ints w' a2 n (dig (leN l))) := by rw [← hT]; exact HI2.out.cut hn
      clear hT
      go_wp2
      go_ret
      exact ⟨a2, n, c2, rfl, hW.out, HI3.out, by omega⟩
end Go.Proofs.YtdancpcnjklifaaDoor

/- The walk over the document's Bytes. -/
namespace Go.Proofs.YtdancpcnjklifaaDoor
set_option linter.unusedVariables false
set_option maxRecDepth 100000
open Go.RowKit

/-- The first k bytes of a number, and 0s behind them. -/
def padB (x size k : Nat) : List UInt8 := leB k x ++ List.replicate (size - k) 0
theorem padB_length (x size k : Nat) (h : k ≤ size) : (padB x size k).length = size := by simp [padB, leB_length]; omega
theorem padB_zero (x size : Nat) : padB x size 0 = List.replicate size 0 := by simp [padB, leB]
theorem padB_set (x size k : Nat) (h : k < size) : (padB x size k).set k (UInt8.ofNat (x / 256 ^ k % 256)) = padB x size (k + 1) := by
  unfold padB
  rw [List.set_append_right _ _ (by rw [leB_length]; exact Nat.le_refl _), leB_length, Nat.sub_self, leB_snoc, List.append_assoc]
  congr 1
  rw [show size - k = (size - (k + 1)) + 1 by omega, List.replicate_succ]
  rfl
theorem padB_all (x size k : Nat) (h : k ≤ size) (hx : k = size ∨ x < 256 ^ k) : padB x size k = leB size x := by
  have hpl := padB_length x size k h
  unfold padB at hpl ⊢
  apply List.ext_getElem
  · rw [hpl, leB_length]
  · intro i h1 h2
    rw [leB_length] at h2
    rw [leB_get size x i h2]
    rcases Nat.lt_or_ge i k with hi | hi
    · rw [List.getElem_append_left (by rw [leB_length]; exact hi), leB_get k x i hi]
    · rw [List.getElem_append_right (by rw [leB_length]; exact hi), List.getElem_replicate]
      rcases hx with hx | hx
      · omega
      · rw [Nat.div_eq_of_lt (Nat.lt_of_lt_of_le hx (Nat.pow_le_pow_right (by decide) hi))]
        rfl

set_option maxHeartbeats 400000 in
set_option maxRecDepth 100000 in
theorem refBytes_any (a : Option Addr) (len cap size x : Nat) (w : World) (hA : Ints w a len (dig x)) (hsz : size ≤ 1000) (hlm : len ≤ 20000) :
    Calls Tryd.prog 80 #[.slice a len cap, .int .i64 (size : Int)] w fun e w' => ∃ g, e = .returned (.slice (some ⟨g, 0, none⟩) size size) ∧ w.heap.size ≤ g ∧ Below w.heap.size w w' ∧ Byt w' (some ⟨g, 0, none⟩) size (leB size x) := by
  have hl := hA.1
  have HA : Hid (Ints w a len (dig x)) := hA
  have HL : Hid ((dig x).length = len) := hl
  clear hA hl
  obtain ⟨w1, hmk, hown1, hb1⟩ := make_full w size (by omega)
  have HO1 : Hid (w1.ownsRow w.heap.size 5 1 (.slice (some ⟨w.heap.size, 0, none⟩) size size) size ((padB x size 0).map bv)) := by
    rw [padB_zero]
    have e : (List.replicate size (0 : UInt8)).map bv = List.replicate size (.int .u8 0) := by simp [bv]
    rw [e]
    exact hown1
  have HB1 : Hid (Below w.heap.size w w1) := hb1
  clear hown1 hb1
  go_enter Tryd.func80, Tryd.ntmps80
  go_wp2
  clear hmk
  go_loopw [6] (fun i wr => ∃ k : Nat, k ≤ size ∧ k ≤ len ∧ i = .int .i64 k ∧ Hid (wr.ownsRow w.heap.size 5 1 (.slice (some ⟨w.heap.size, 0, none⟩) size size) size ((padB x size k).map bv)) ∧ Hid (Below w.heap.size w wr)) (fun i _ => size - (intOf i).toNat)
  case atStart => exact ⟨0, Nat.zero_le _, Nat.zero_le _, rfl, HO1, HB1⟩
  case round =>
    clear HO1 HB1
    obtain ⟨k, hk, hkl, rfl, hO, hW⟩ := hrel
    by_cases hlt : k < size ∧ k < len
    · obtain ⟨hk1, hk2⟩ := hlt
      obtain ⟨b, off, rfl, hc0⟩ := HA.out.at_ k hk2
      have hc : wr.cell? ⟨b, off + k, none⟩ = some (.int .i64 (atD (dig x) k : Int)) := by
        rw [hW.out.cell (p := ⟨b, off + k, none⟩) (World.block_lt_of_cell? w _ hc0)]; exact hc0
      have hx := atD_lt (dig x) (dig_lt x) k
      have hf := hO.out.frozenAt k
      have hcl : ∃ v0, wr.cell? ⟨w.heap.size, k, none⟩ = some v0 := by
        rw [hO.out.cellAt k (by omega)]
        have h1 : k < ((padB x size k).map bv).length := by have := hO.out.1; omega
        exact ⟨_, List.getElem?_eq_getElem h1⟩
      obtain ⟨v0, hv0⟩ := hcl
      have i1 : (k : Int) < (size : Int) := by omega
      have i2 : (k : Int) < (len : Int) := by omega
      have HO2 : Hid ((wr.setCell ⟨w.heap.size, k, none⟩ (.int .u8 (atD (dig x) k : Int))).ownsRow w.heap.size 5 1 (.slice (some ⟨w.heap.size, 0, none⟩) size size) size ((padB x size (k + 1)).map bv)) := by
        rw [← padB_set x size k hk1, List.map_set]
        have e : bv (UInt8.ofNat (x / 256 ^ k % 256)) = .int .u8 (atD (dig x) k : Int) := by
          rw [dig_at]; simp [bv]
        rw [e]
        exact (hO.out.stored k _).1
      have HW2 : Hid (Below w.heap.size w (wr.setCell ⟨w.heap.size, k, none⟩ (.int .u8 (atD (dig x) k : Int)))) := hW.out.setCell (Nat.le_refl _) _
      have hmod : (atD (dig x) k : Int) % 256 = (atD (dig x) k : Int) := by omega
      clear hc0 hO hW
      go_wp2
      exact ⟨⟨k + 1, by omega, by omega, by go_num, HO2, HW2⟩, by simp [intOf]; omega⟩
    · have HR : Hid (padB x size k = leB size x) := padB_all x size k hk (by
        rcases Nat.lt_or_ge k size with h1 | h1
        · right
          have h2 : k = len := by omega
          rw [h2, ← HL.out]
          exact lt_pow_length x
        · left; omega)
      have hE : Hid (Byt wr (some ⟨w.heap.size, 0, none⟩) size (leB size x)) := by rw [← HR.out]; exact Byt.ofOwn hO.out
      clear hO HR
      by_cases h1 : k < size
      · have i1 : (k : Int) < (size : Int) := by omega
        have i2 : ¬ (k : Int) < (len : Int) := by omega
        clear hlt
        go_wp2
        go_ret
        exact ⟨w.heap.size, rfl, Nat.le_refl _, hW.out, hE.out⟩
      · have i1 : ¬ (k : Int) < (size : Int) := by omega
        clear hlt
        go_wp2
        go_ret
        exact ⟨w.heap.size, rfl, Nat.le_refl _, hW.out, hE.out⟩
end Go.Proofs.YtdancpcnjklifaaDoor

/- The walk over the document's Sum (poly). -/
namespace Go.Proofs.YtdancpcnjklifaaDoor
set_option linter.unusedVariables false
set_option maxRecDepth 100000
open Go.RowKit

/-- The key's first half, with the bits that do not count cleared up to a place. -/
def clM (p q : Nat) (key : List UInt8) : List UInt8 :=
  (List.range 16).map fun i => if i % 4 = 3 ∧ i < p then UInt8.ofNat ((at8 key i).toNat % 16) else if (i % 4 = 0 ∧ i ≠ 0) ∧ i < q then UInt8.ofNat ((at8 key i).toNat / 4 * 4) else at8 key i
theorem clM_length (p q : Nat) (key : List UInt8) : (clM p q key).length = 16 := by simp [clM]
theorem clM_none (key : List UInt8) (h : key.length = 32) : clM 3 0 key = key.take 16 := by
  apply List.ext_getElem
  · simp [clM, h]
  · intro i h1 h2
    have hi : i < 16 := by simpa [clM] using h1
    simp only [clM, List.getElem_map, List.getElem_range, List.getElem_take]
    rw [if_neg (by omega), if_neg (by omega), at8_get _ _ (by omega)]
theorem clM_all (key : List UInt8) : clM 19 16 key = clampB key := by
  apply List.ext_getElem
  · simp [clM, clampB]
  · intro i h1 h2
    have hi : i < 16 := by simpa [clM] using h1
    simp only [clM, clampB, clamp1, List.getElem_map, List.getElem_range]
    by_cases h3 : i % 4 = 3
    · rw [if_pos ⟨h3, by omega⟩, if_pos h3]
    · rw [if_neg (by omega), if_neg h3]
      by_cases h4 : i % 4 = 0 ∧ i ≠ 0
      · rw [if_pos ⟨h4, by omega⟩, if_pos h4]
      · rw [if_neg (fun h => h4 h.1), if_neg h4]
theorem clM_at (p q : Nat) (key : List UInt8) (i : Nat) (h : i < 16) : at8 (clM p q key) i = if i % 4 = 3 ∧ i < p then UInt8.ofNat ((at8 key i).toNat % 16) else if (i % 4 = 0 ∧ i ≠ 0) ∧ i < q then UInt8.ofNat ((at8 key i).toNat / 4 * 4) else at8 key i := by
  rw [at8_get _ _ (by rw [clM_length]; exact h)]
  simp [clM]
theorem clM_set1 (key : List UInt8) (j : Nat) (h : j < 4) : (clM (3 + 4 * j) 0 key).set (3 + 4 * j) (UInt8.ofNat ((at8 key (3 + 4 * j)).toNat % 16)) = clM (3 + 4 * (j + 1)) 0 key := by
  apply List.ext_getElem
  · simp [clM]
  · intro i h1 h2
    have hi : i < 16 := by simpa [clM] using h2
    rw [List.getElem_set]
    by_cases e : 3 + 4 * j = i
    · subst e
      rw [if_pos rfl]
      simp only [clM, List.getElem_map, List.getElem_range]
      rw [if_pos (by omega)]
    · rw [if_neg e]
      simp only [clM, List.getElem_map, List.getElem_range]
      by_cases h3 : i % 4 = 3 ∧ i < 3 + 4 * j
      · rw [if_pos h3, if_pos (by omega)]
      · rw [if_neg h3, if_neg (by omega), if_neg (by omega)]
theorem clM_set2 (key : List UInt8) (j : Nat) (h : j < 3) : (clM 19 (4 + 4 * j) key).set (4 + 4 * j) (UInt8.ofNat ((at8 key (4 + 4 * j)).toNat / 4 * 4)) = clM 19 (4 + 4 * (j + 1)) key := by
  apply List.ext_getElem
  · simp [clM]
  · intro i h1 h2
    have hi : i < 16 := by simpa [clM] using h2
    rw [List.getElem_set]
    by_cases e : 4 + 4 * j = i
    · subst e
      rw [if_pos rfl]
      simp only [clM, List.getElem_map, List.getElem_range]
      rw [if_neg (by omega), if_pos (by omega)]
    · rw [if_neg e]
      simp only [clM, List.getElem_map, List.getElem_range]
      by_cases h3 : i % 4 = 3 ∧ i < 19
      · rw [if_pos h3, if_pos h3]
      · rw [if_neg h3, if_neg h3]
        by_cases h4 : (i % 4 = 0 ∧ i ≠ 0) ∧ i < 4 + 4 * j
        · rw [if_pos h4, if_pos (by omega)]
        · rw [if_neg h4, if_neg (by omega)]
theorem polyTo_small (r : Nat) (l : List UInt8) (k : Nat) : polyTo r l k < 256 ^ 17 := Nat.lt_trans (polyTo_lt r l k) (by decide)

set_option maxHeartbeats 2000000 in
set_option maxRecDepth 100000 in
theorem refSum_any (kb koff kc : Nat) (key : List UInt8) (a : Option Addr) (len cap : Nat) (l : List UInt8) (w : World) (hkc : 32 ≤ kc) (hK : Byt w (some ⟨kb, koff, none⟩) 32 key) (hB : Byt w a len l) (hlm : len ≤ 10000) (hlc : len ≤ cap) :
    Calls Tryd.prog 58 #[.slice (some ⟨kb, koff, none⟩) 32 kc, .slice a len cap] w fun e w' => ∃ g, e = .returned (.slice (some ⟨g, 0, none⟩) 16 16) ∧ w.heap.size ≤ g ∧ Below w.heap.size w w' ∧ Byt w' (some ⟨g, 0, none⟩) 16 (tag key l) := by
  have hkl := hK.1
  have hkb := hK.lt (by omega)
  have hl := hB.1
  have HK : Hid (Byt w (some ⟨kb, koff, none⟩) 32 key) := hK
  have HB : Hid (Byt w a len l) := hB
  clear hK hB
  obtain ⟨v1, w1, hap1, own1, hg1⟩ := append_bytes (w.alloc (.cells #[] 5)) w.heap.size (.slice (some ⟨w.heap.size, 0, none⟩) 0 0) 0 [] (World.ownsRow_made w #[] 0 (Nat.le_refl _) (Nat.zero_le _) rfl) ⟨kb, koff, none⟩ 16 kc (key.take 16) ((HK.out.cut (by omega)).later ((Below.refl _ _).alloc (Nat.le_refl _) _)) (by simp) (by omega)
  have bel1 : Below w.heap.size w w1 := ((Below.refl _ _).alloc (Nat.le_refl _) _).grown hg1 (by simp) (fun k hk => by simp [Value.ownBlock] at hk; omega)
  obtain ⟨g, gc, rfl, hbg, _⟩ := Seg.ofOwn own1 (by omega)
  rw [List.nil_append, ← clM_none key hkl] at own1
  have HO1 : Hid (w1.ownsRow w.heap.size 5 1 (.slice (some ⟨g, 0, none⟩) 16 gc) 16 ((clM 3 0 key).map bv)) := own1
  have HW1 : Hid (Below w.heap.size w w1) := bel1
  have HA1 : Hid ((Builtin.append_ #[29, 29] 29 #[.slice (some ⟨w.heap.size, 0, none⟩) 0 0, .slice (some ⟨kb, koff, none⟩) 16 kc]).run Tryd.prog (w.alloc (.cells #[] 5)) = .ok (.slice (some ⟨g, 0, none⟩) 16 gc) w1) := hap1
  clear hap1 own1 hg1 bel1
  go_enter Tryd.func58, Tryd.ntmps58
  go_wp2_with (at_builtin; refine wpList_append_run rfl (.tmp 11) (.tmp 13) 29 rfl _ _ _ _ rfl rfl HA1.out ?_)
  clear HA1
  go_loopw [6] (fun i wr => ∃ j : Nat, j ≤ 4 ∧ i = .int .i64 ((3 + 4 * j : Nat) : Int) ∧ Hid (wr.ownsRow w.heap.size 5 1 (.slice (some ⟨g, 0, none⟩) 16 gc) 16 ((clM (3 + 4 * j) 0 key).map bv)) ∧ Hid (Below w.heap.size w wr)) (fun i _ => 20 - (intOf i).toNat)
  case atStart => exact ⟨0, by omega, rfl, HO1, HW1⟩
  case round =>
    clear HO1 HW1
    obtain ⟨j, hj, rfl, hO, hW⟩ := hrel
    obtain ⟨p, hp⟩ : ∃ p, 3 + 4 * j = p := ⟨_, rfl⟩
    rw [hp] at hO ⊢
    by_cases hlt : j < 4
    · have hp16 : (p : Int) < 16 := by omega
      have hx := (at8 key p).toNat_lt
      have hc : wr.cell? ⟨g, p, none⟩ = some (.int .u8 ((at8 key p).toNat : Int)) := by
        rw [hO.out.cellAt p (by omega), List.getElem?_map, List.getElem?_eq_getElem (by rw [clM_length]; omega)]
        rw [← at8_get _ _ (by rw [clM_length]; omega), clM_at p 0 key p (by omega), if_neg (by omega), if_neg (by omega)]
        rfl
      have hf := hO.out.frozenAt p
      obtain ⟨r, hr⟩ : ∃ r, (at8 key p).toNat % 16 = r := ⟨_, rfl⟩
      have fr1 : ((at8 key p).toNat : Int) % 16 = (r : Int) := by omega
      have fr2 : ((at8 key p).toNat : Int).tmod 16 = (r : Int) := by rw [Int.tmod_eq_emod_of_nonneg (by omega)]; omega
      have HO2 : Hid ((wr.setCell ⟨g, p, none⟩ (.int .u8 (r : Int))).ownsRow w.heap.size 5 1 (.slice (some ⟨g, 0, none⟩) 16 gc) 16 ((clM (3 + 4 * (j + 1)) 0 key).map bv)) := by
        rw [← clM_set1 key j hlt, List.map_set, hp]
        have e : bv (UInt8.ofNat ((at8 key p).toNat % 16)) = .int .u8 (r : Int) := by rw [hr]; simp [bv]; omega
        rw [e]
        exact (hO.out.stored p _).1
      have HW2 : Hid (Below w.heap.size w (wr.setCell ⟨g, p, none⟩ (.int .u8 (r : Int)))) := hW.out.setCell hbg _
      have hrb : r < 16 := by omega
      clear hO hW hr
      go_wp2
      exact ⟨⟨j + 1, by omega, by go_num, HO2, HW2⟩, by simp [intOf]; omega⟩
    · have hp16 : ¬ (p : Int) < 16 := by omega
      have HO2 : Hid (wr.ownsRow w.heap.size 5 1 (.slice (some ⟨g, 0, none⟩) 16 gc) 16 ((clM 19 4 key).map bv)) := by
        have e : clM p 0 key = clM 19 4 key := by
          rw [show p = 19 by omega]
          apply List.ext_getElem
          · simp [clM]
          · intro i h1 h2
            simp only [clM, List.getElem_map, List.getElem_range]
            by_cases h3 : i % 4 = 3 ∧ i < 19
            · rw [if_pos h3, if_pos h3]
            · rw [if_neg h3, if_neg h3, if_neg (by omega), if_neg (by omega)]
        rw [← e]; exact hO.out
      clear hO
      go_wp2
      go_loopw [7] (fun i wr => ∃ j : Nat, j ≤ 3 ∧ i = .int .i64 ((4 + 4 * j : Nat) : Int) ∧ Hid (wr.ownsRow w.heap.size 5 1 (.slice (some ⟨g, 0, none⟩) 16 gc) 16 ((clM 19 (4 + 4 * j) key).map bv)) ∧ Hid (Below w.heap.size w wr)) (fun i _ => 20 - (intOf i).toNat)
      case atStart => exact ⟨0, by omega, rfl, HO2, hW⟩
      case round =>
        clear HO2 hW
        clear hp hp16 hlt hj
        obtain ⟨j, hj, rfl, hO, hW⟩ := hrel
        obtain ⟨p, hp⟩ : ∃ p, 4 + 4 * j = p := ⟨_, rfl⟩
        rw [hp] at hO ⊢
        by_cases hlt : j < 3
        · have hp16 : (p : Int) < 16 := by omega
          have hx := (at8 key p).toNat_lt
          have hc : wr.cell? ⟨g, p, none⟩ = some (.int .u8 ((at8 key p).toNat : Int)) := by
            rw [hO.out.cellAt p (by omega), List.getElem?_map, List.getElem?_eq_getElem (by rw [clM_length]; omega)]
            rw [← at8_get _ _ (by rw [clM_length]; omega), clM_at 19 p key p (by omega), if_neg (by omega), if_neg (by omega)]
            rfl
          have hf := hO.out.frozenAt p
          obtain ⟨r, hr⟩ : ∃ r, (at8 key p).toNat / 4 = r := ⟨_, rfl⟩
          obtain ⟨s, hs⟩ : ∃ s, r * 4 = s := ⟨_, rfl⟩
          have hrb : r < 64 := by omega
          have hsb : s < 256 := by omega
          have fr1 : ((at8 key p).toNat : Int) / 4 = (r : Int) := by omega
          have fr2 : ((at8 key p).toNat : Int).tdiv 4 = (r : Int) := by rw [Int.tdiv_eq_ediv_of_nonneg (by omega)]; omega
          have fs : (r : Int) * 4 = (s : Int) := by omega
          have HO2 : Hid ((wr.setCell ⟨g, p, none⟩ (.int .u8 (s : Int))).ownsRow w.heap.size 5 1 (.slice (some ⟨g, 0, none⟩) 16 gc) 16 ((clM 19 (4 + 4 * (j + 1)) key).map bv)) := by
            rw [← clM_set2 key j hlt, List.map_set, hp]
            have e : bv (UInt8.ofNat ((at8 key p).toNat / 4 * 4)) = .int .u8 (s : Int) := by rw [hr, hs]; simp [bv]; omega
            rw [e]
            exact (hO.out.stored p _).1
          have HW2 : Hid (Below w.heap.size w (wr.setCell ⟨g, p, none⟩ (.int .u8 (s : Int)))) := hW.out.setCell hbg _
          clear hO hW hr hs
          go_wp2
          exact ⟨⟨j + 1, by omega, by go_num, HO2, HW2⟩, by simp [intOf]; omega⟩
        · have hp16 : ¬ (p : Int) < 16 := by omega
          have HR : Hid (Byt wr (some ⟨g, 0, none⟩) 16 (clampB key)) := by
            rw [← clM_all, show (16 : Nat) = p by omega]
            have := Byt.ofOwn hO.out
            rwa [show (16 : Nat) = p by omega] at this
          clear hO
          have HI0 : Hid (Ints (wr.alloc (.cells #[] 3)) (some ⟨wr.heap.size, 0, none⟩) 0 (dig (polyTo (polyR key) l 0))) := ⟨by show (dig 0).length = 0; rw [dig_zero]; rfl, .inl rfl⟩
          have HR0 : Hid (Byt (wr.alloc (.cells #[] 3)) (some ⟨g, 0, none⟩) 16 (clampB key)) := HR.out.later ((Below.refl _ _).alloc (Nat.le_refl _) _)
          have HW0 : Hid (Below w.heap.size w (wr.alloc (.cells #[] 3))) := hW.out.alloc hW.out.size _
          clear hp hW HR hlt hj
          go_wp2
          go_loopw [8, 9] (fun v i wr => ∃ (k n c : Nat) (a' : Option Addr), 16 * k ≤ len + 15 ∧ i = .int .i64 ((16 * k : Nat) : Int) ∧ v = .slice a' n c ∧ n ≤ c ∧ Hid (Ints wr a' n (dig (polyTo (polyR key) l k))) ∧ Hid (Byt wr (some ⟨g, 0, none⟩) 16 (clampB key)) ∧ Hid (Below w.heap.size w wr)) (fun _ i _ => len + 16 - (intOf i).toNat)
          case atStart => exact ⟨0, 0, 0, _, by omega, rfl, rfl, Nat.le_refl _, HI0, HR0, HW0⟩
          case round =>
            clear HI0 HR0 HW0 hp16
            obtain ⟨k, n, c, a', hk, rfl, rfl, hnc, hI, hR, hW⟩ := hrel
            obtain ⟨p, hp⟩ : ∃ p, 16 * k = p := ⟨_, rfl⟩
            rw [hp] at hk ⊢
            have hnb : n ≤ 17 := by rw [← hI.out.1]; exact dig_length_le _ _ (polyTo_small _ _ _)
            by_cases hlt : p < len
            · have i1 : (p : Int) < (len : Int) := by omega
              obtain ⟨q, hq⟩ : ∃ q, q = min (p + 16) len := ⟨_, rfl⟩
              have hq1 : p < q := by omega
              have hq2 : q ≤ len := by omega
              have hq3 : q - p ≤ 16 := by omega
              have hmin : (if (len : Int) < (p : Int) + 16 then (len : Int) else (p : Int) + 16) = (q : Int) := by split <;> omega
              have HPart : Hid ((l.drop p).take (q - p) = cutB l (16 * k) 16) := by
                show _ = _
                unfold cutB
                rw [hp]
                apply List.ext_getElem
                · simp; omega
                · intro i h1 h2; simp
              clear hq
              obtain ⟨ba, offa, rfl⟩ : ∃ ba offa, a = some ⟨ba, offa, none⟩ := by
                rcases HB.out.2 with h0 | ⟨b', off', e, _⟩
                · omega
                · exact ⟨b', off', e⟩
              have hba := HB.out.lt (by omega)
              have hcn : ¬ cap = p := by omega
              have hpc : (p : Int) ≤ (cap : Int) := by omega
              have hqc : (q : Int) ≤ (cap : Int) := by omega
              have hpq : (p : Int) ≤ (q : Int) := by omega
              have hqi : ((q : Int) - (p : Int)) = ((q - p : Nat) : Int) := by omega
              -- the part
              have hBw := (HB.out.below hba hW.out).sub (n := p) (q := q) (by omega) hq2
              obtain ⟨v3, w3, hap3, own3, hg3⟩ := append_bytes (wr.alloc (.cells #[] 5)) wr.heap.size (.slice (some ⟨wr.heap.size, 0, none⟩) 0 0) 0 [] (World.ownsRow_made wr #[] 0 (Nat.le_refl _) (Nat.zero_le _) rfl) ⟨ba, offa + p, none⟩ (q - p) (cap - p) _ (hBw.later ((Below.refl _ _).alloc (Nat.le_refl _) _)) (by simp) (by omega)
              have bel3 : Below wr.heap.size wr w3 := ((Below.refl _ _).alloc (Nat.le_refl _) _).grown hg3 (by simp) (fun k hk => by simp [Value.ownBlock] at hk; omega)
              have hone : Byt (w3.alloc (.cells #[.int .u8 1] 5)) (some ⟨w3.heap.size, 0, none⟩) 1 [1] := byt_lit _ [1] w3.heap.size _ _ _ (heap_alloc_new w3 _) rfl
              obtain ⟨v4, w4, hap4, own4, hg4⟩ := append_bytes (w3.alloc (.cells #[.int .u8 1] 5)) wr.heap.size v3 _ _ (own3.alloc _) ⟨w3.heap.size, 0, none⟩ 1 1 [1] hone (by have := bel3.size; simp; omega) (by omega)
              have bel4 : Below wr.heap.size wr w4 := (bel3.alloc bel3.size _).grown hg4 (by have := bel3.size; simp; omega) (fun k hk => (own3.lt k hk).1)
              rw [List.nil_append, HPart.out] at own4
              obtain ⟨g4, c4, rfl, hbg4, _⟩ := Seg.ofOwn own4 (by omega)
              have HB4 : Hid (Byt w4 (some ⟨g4, 0, none⟩) (0 + (q - p) + 1) (cutB l (16 * k) 16 ++ [1])) := Byt.ofOwn own4
              have HA3 : Hid ((Builtin.append_ #[29, 29] 29 #[.slice (some ⟨wr.heap.size, 0, none⟩) 0 0, .slice (some ⟨ba, offa + p, none⟩) (q - p) (cap - p)]).run Tryd.prog (wr.alloc (.cells #[] 5)) = .ok v3 w3) := hap3
              have HA4 : Hid ((Builtin.append_ #[29, 29] 29 #[v3, .slice (some ⟨w3.heap.size, 0, none⟩) 1 1]).run Tryd.prog (w3.alloc (.cells #[.int .u8 1] 5)) = .ok (.slice (some ⟨g4, 0, none⟩) (0 + (q - p) + 1) c4) w4) := hap4
              have HI4 : Hid (Ints w4 a' n (dig (polyTo (polyR key) l k))) := hI.out.later bel4
              have HR4 : Hid (Byt w4 (some ⟨g, 0, none⟩) 16 (clampB key)) := hR.out.later bel4
              have HW4 : Hid (Below w.heap.size w w4) := hW.out.trans (bel4.mono hW.out.size)
              clear hap3 own3 hg3 bel3 hone hap4 own4 hg4 bel4 hBw hI hR hW hbg4
              go_wp2_with (at_builtin; first | refine wpList_append_run rfl (.tmp 47) (.tmp 55) 29 rfl _ _ _ _ rfl rfl HA3.out ?_ | refine wpList_append_run rfl (.tmp 56) (.tmp 57) 29 rfl _ _ _ _ rfl rfl HA4.out ?_)
              clear HA3 HA4
              have HB4' : Hid (Byt w4 (some ⟨g4, 0, none⟩) (q - p + 1) (cutB l (16 * k) 16 ++ [1])) := by have := HB4.out; rwa [Nat.zero_add] at this
              clear HB4
              refine (refNumber_any _ (q - p + 1) c4 _ w4 HB4'.out (by omega)).mono ?_
              rintro e w5 ⟨a5, n5, c5, rfl, hb5, hI5, hn5⟩
              have hI5' : Ints w5 a5 n5 (dig (partN l k)) := hI5
              have hn5b : n5 ≤ 17 := by rw [← hI5'.1]; exact dig_length_le _ _ (partN_lt l k)
              have HI5 : Hid (Ints w5 a5 n5 (dig (partN l k))) := hI5'
              have HI4b : Hid (Ints w5 a' n (dig (polyTo (polyR key) l k))) := HI4.out.later hb5
              have HR5 : Hid (Byt w5 (some ⟨g, 0, none⟩) 16 (clampB key)) := HR4.out.later hb5
              have HW5 : Hid (Below w.heap.size w w5) := HW4.out.trans (hb5.mono HW4.out.size)
              clear hI5 hI5' hb5 HI4 HR4 HW4 HB4'
              go_wp2_with fail
              refine (refPlus_any a' n c _ a5 n5 c5 _ w5 HI4b.out HI5.out (dig_lt _) (dig_lt _) (by omega) (by omega)).mono ?_
              rintro e w6 ⟨a6, n6, c6, rfl, hb6, hI6, hn6⟩
              rw [valD_dig, valD_dig] at hI6
              have hn6b : n6 ≤ 18 := by
                rw [← hI6.1]
                refine dig_length_le _ _ ?_
                have h1 := polyTo_small (polyR key) l k
                have h2 := partN_lt l k
                rw [Nat.pow_succ]; omega
              have HI6 : Hid (Ints w6 a6 n6 (dig (polyTo (polyR key) l k + partN l k))) := hI6
              have HR6 : Hid (Byt w6 (some ⟨g, 0, none⟩) 16 (clampB key)) := HR5.out.later hb6
              have HW6 : Hid (Below w.heap.size w w6) := HW5.out.trans (hb6.mono HW5.out.size)
              clear hI6 hb6 HI4b HI5 HR5 HW5
              go_wp2_with fail
              refine (refNumber_any _ 16 gc _ w6 HR6.out (by omega)).mono ?_
              rintro e w7 ⟨a7, n7, c7, rfl, hb7, hI7, hn7⟩
              have hI7' : Ints w7 a7 n7 (dig (polyR key)) := hI7
              have hn7b : n7 ≤ 16 := by rw [← hI7'.1]; exact dig_length_le _ _ (polyR_lt key)
              have HI7 : Hid (Ints w7 a7 n7 (dig (polyR key))) := hI7'
              have HI6b : Hid (Ints w7 a6 n6 (dig (polyTo (polyR key) l k + partN l k))) := HI6.out.later hb7
              have HR7 : Hid (Byt w7 (some ⟨g, 0, none⟩) 16 (clampB key)) := HR6.out.later hb7
              have HW7 : Hid (Below w.heap.size w w7) := HW6.out.trans (hb7.mono HW6.out.size)
              clear hI7 hI7' hb7 HI6 HR6 HW6
              go_wp2_with fail
              refine (refTimes_any a6 n6 c6 _ a7 n7 c7 _ w7 HI6b.out HI7.out (dig_lt _) (dig_lt _) (by omega) (by omega)).mono ?_
              rintro e w8 ⟨a8, n8, c8, rfl, hb8, hI8, hn8⟩
              rw [valD_dig, valD_dig] at hI8
              have hn8b : n8 ≤ 34 := by
                rw [← hI8.1]
                refine dig_length_le _ _ ?_
                have h1 := polyTo_small (polyR key) l k
                have h2 := partN_lt l k
                have h3 := polyR_lt key
                have h4 : (polyTo (polyR key) l k + partN l k) * polyR key < (256 ^ 17 + 256 ^ 17) * 256 ^ 16 := Nat.mul_lt_mul_of_lt_of_le (by omega) (Nat.le_of_lt h3) (Nat.pow_pos (by decide))
                exact Nat.lt_of_lt_of_le h4 (by decide)
              have HI8 : Hid (Ints w8 a8 n8 (dig ((polyTo (polyR key) l k + partN l k) * polyR key))) := hI8
              have HR8 : Hid (Byt w8 (some ⟨g, 0, none⟩) 16 (clampB key)) := HR7.out.later hb8
              have HW8 : Hid (Below w.heap.size w w8) := HW7.out.trans (hb8.mono HW7.out.size)
              clear hI8 hb8 HI6b HI7 HR7 HW7
              go_wp2_with fail
              refine (refMod_any a8 n8 c8 _ 16 2 5 w8 HI8.out (dig_lt _) hn8 (by omega) (by omega) (by omega) (by omega) (by omega) (by omega)).mono ?_
              rintro e w9 ⟨a9, n9, c9, rfl, hb9, hI9, hn9⟩
              rw [valD_dig] at hI9
              have HI9 : Hid (Ints w9 a9 n9 (dig (polyTo (polyR key) l (k + 1)))) := hI9
              have HR9 : Hid (Byt w9 (some ⟨g, 0, none⟩) 16 (clampB key)) := HR8.out.later hb9
              have HW9 : Hid (Below w.heap.size w w9) := HW8.out.trans (hb9.mono HW8.out.size)
              clear hI9 hb9 HI8 HR8 HW8
              go_wp2
              exact ⟨⟨k + 1, n9, c9, a9, by omega, by go_num, rfl, hn9, HI9, HR9, HW9⟩, by simp [intOf]; omega⟩
            · have i1 : ¬ (p : Int) < (len : Int) := by omega
              have HKn : Hid (k = polyN l.length) := by show _ = _; unfold polyN; omega
              have hKb : Byt wr (some ⟨kb, koff + 16, none⟩) (32 - 16) ((key.drop 16).take (32 - 16)) := (HK.out.below hkb hW.out).sub (n := 16) (q := 32) (by omega) (Nat.le_refl _)
              have HKb : Hid (Byt wr (some ⟨kb, koff + 16, none⟩) 16 (cutB key 16 16)) := hKb
              clear hKb hR
              go_wp2_with fail
              refine (refNumber_any _ 16 (kc - 16) _ wr HKb.out (by omega)).mono ?_
              rintro e w5 ⟨a5, n5, c5, rfl, hb5, hI5, hn5⟩
              have hI5' : Ints w5 a5 n5 (dig (polyS key)) := hI5
              have hn5b : n5 ≤ 16 := by rw [← hI5'.1]; exact dig_length_le _ _ (polyS_lt key)
              have HI5 : Hid (Ints w5 a5 n5 (dig (polyS key))) := hI5'
              have HIb : Hid (Ints w5 a' n (dig (polyTo (polyR key) l k))) := hI.out.later hb5
              have HW5 : Hid (Below w.heap.size w w5) := hW.out.trans (hb5.mono hW.out.size)
              clear hI5 hI5' hb5 hI hW HKb
              go_wp2_with fail
              refine (refPlus_any a' n c _ a5 n5 c5 _ w5 HIb.out HI5.out (dig_lt _) (dig_lt _) (by omega) (by omega)).mono ?_
              rintro e w6 ⟨a6, n6, c6, rfl, hb6, hI6, hn6⟩
              rw [valD_dig, valD_dig] at hI6
              have hn6b : n6 ≤ 18 := by
                rw [← hI6.1]
                refine dig_length_le _ _ ?_
                have h1 := polyTo_small (polyR key) l k
                have h2 := polyS_lt key
                have h3 : (256 : Nat) ^ 16 ≤ 256 ^ 17 := by decide
                rw [Nat.pow_succ]; omega
              have HI6 : Hid (Ints w6 a6 n6 (dig (polyTo (polyR key) l k + polyS key))) := hI6
              have HW6 : Hid (Below w.heap.size w w6) := HW5.out.trans (hb6.mono HW5.out.size)
              clear hI6 hb6 HIb HI5 HW5
              go_wp2_with fail
              refine (refBytes_any a6 n6 c6 16 _ w6 HI6.out (by omega) (by omega)).mono ?_
              rintro e w7 ⟨g7, rfl, hg7, hb7, hB7⟩
              have HB7 : Hid (Byt w7 (some ⟨g7, 0, none⟩) 16 (tag key l)) := by
                unfold tag
                rw [← HKn.out]
                exact hB7
              have HW7 : Hid (Below w.heap.size w w7) := HW6.out.trans (hb7.mono HW6.out.size)
              have hg7' : w.heap.size ≤ g7 := Nat.le_trans HW6.out.size hg7
              clear hB7 hb7 HI6 HW6
              go_wp2
              go_ret
              exact ⟨g7, rfl, hg7', HW7.out, HB7.out⟩
end Go.Proofs.YtdancpcnjklifaaDoor
