/- The walk over the document's Carry. -/
import Derived.Test.YtmdoojfcgbokjaaDoorRefPa
namespace Go.Proofs.YtmdoojfcgbokjaaDoor
set_option linter.unusedVariables false
open Go.RowKit

theorem Ints.cells {w : World} {x : Addr} {m : Nat} {ys : List Nat} (h : Ints w (some x) m ys) : ∀ j v, (ys.map iv)[j]? = some v → w.cell? (x.add j) = some v := by
  intro j v hj
  have hl := h.1
  have hjl : j < ys.length := by
    rcases Nat.lt_or_ge j ys.length with hh | hh
    · exact hh
    · rw [List.getElem?_eq_none (by simpa using hh)] at hj; cases hj
  rcases h.2 with h0 | ⟨b, off, e, hc⟩
  · omega
  · cases e
    rw [addr_add, hc j (by omega), atD_get ys j hjl]
    rw [List.getElem?_map, List.getElem?_eq_getElem hjl] at hj
    simpa [iv] using hj
/-- 'append(out, s...)' of whole numbers. -/
theorem append_ints (w : World) (base : Nat) (v : Value) (n : Nat) (xs : List Nat) (hown : w.ownsRow base 3 1 v n (xs.map iv)) (x : Addr) (m c : Nat) (ys : List Nat) (hs : Ints w (some x) m ys) (hb : base ≤ w.heap.size) (hsm : n + m ≤ 1000000) :
    ∃ v' w', (Builtin.append_ #[53, 53] 53 #[v, .slice (some x) m c]).run Tryd.prog w = .ok v' w' ∧ w'.ownsRow base 3 1 v' (n + m) ((xs ++ ys).map iv) ∧ w.grownBy w' v.ownBlock := by
  obtain ⟨i0, hi, hz0, hz1, hz2⟩ := info_parts Tryd.infoI64
  have hl := hs.1
  obtain ⟨v', w', hr, ho, hg, _⟩ := run_append_own (P := Tryd.prog) w base 53 53 3 i0 (.int .i64 0) 1 8 Tryd.underlying53 hi hz0 hz1 hz2 rfl (by decide) v n _ hown x m c (ys.map iv) (by rw [List.length_map]; omega) hs.cells (iv_oneCell ys) (by unfold maxLen; omega) (by omega) hb
  exact ⟨v', w', hr, by rw [List.map_append]; exact ho, hg⟩
/-- 'append(out, x)'. -/
theorem append_int (w : World) (base : Nat) (v : Value) (n : Nat) (xs : List Nat) (hown : w.ownsRow base 3 1 v n (xs.map iv)) (x : Nat) (hb : base ≤ w.heap.size) (hsm : n ≤ 100000) :
    ∃ v' w', (Builtin.append_ #[53, 53] 53 #[v, .slice (some ⟨w.heap.size, 0, none⟩) 1 1]).run Tryd.prog (w.alloc (.cells #[.int .i64 (x : Int)] 3)) = .ok v' w' ∧ w'.ownsRow base 3 1 v' (n + 1) ((xs ++ [x]).map iv) ∧ w.grownBy w' v.ownBlock := by
  have hs : Ints (w.alloc (.cells #[.int .i64 (x : Int)] 3)) (some ⟨w.heap.size, 0, none⟩) 1 [x] := by
    refine ⟨rfl, .inr ⟨w.heap.size, 0, rfl, fun i hi => ?_⟩⟩
    obtain rfl : i = 0 := by omega
    rw [cell_of_row _ w.heap.size (0 + 0) _ _ (0, 0) (heap_alloc_new w _)]
    simp [atD]
  obtain ⟨v', w', hr, ho, hg⟩ := append_ints (w.alloc (.cells #[.int .i64 (x : Int)] 3)) base v n xs (hown.alloc _) ⟨w.heap.size, 0, none⟩ 1 1 [x] hs (by simp; omega) (by omega)
  refine ⟨v', w', hr, ho, hg.os, hg.tape, hg.output, by have := hg.size; simp at this; omega, fun k hk hne => ?_⟩
  rw [hg.block k (by simp; omega) hne]
  exact Below.heap_alloc w _ k hk
theorem ints_out {w : World} {base : Nat} {v : Value} {n : Nat} {l : List Nat} (h : w.ownsRow base 3 1 v n (l.map iv)) :
    ∃ a cap, v = .slice a n cap ∧ Ints w a n l ∧ n ≤ cap ∧ cap ≤ maxLen := by
  have hl := h.1
  rw [List.length_map, Nat.mul_one] at hl
  rcases h.2 with ⟨e, h0⟩ | ⟨g, cap, cur, rfl, hb, hg, hnc, hcm, hcs, htake⟩
  · refine ⟨none, 0, ?_, ⟨hl, .inl h0⟩, by omega, by unfold maxLen; omega⟩
    rw [e, h0]
  · obtain ⟨a', cap', e, hs, _⟩ := Seg.ofOwn' h
    cases e
    exact ⟨_, cap, rfl, Ints.ofSeg hs, hnc, hcm⟩

/-- Between the digits: those that are done, and what is left. -/
structure Car (l : List Nat) (k left : Nat) (o : List Nat) : Prop where
  lt : ∀ x ∈ o, x < 256
  len : o.length = k
  val : valD o + 256 ^ k * left = valD (l.take k)
  small : left * 256 ^ (k - l.length) ≤ 2 ^ 50
theorem Car.step {l : List Nat} {k left : Nat} {o : List Nat} (h : Car l k left o) (hk : k < l.length) (hb : ∀ x ∈ l, x ≤ 2 ^ 50) : Car l (k + 1) ((left + atD l k) / 256) (o ++ [(left + atD l k) % 256]) := by
  have hx := hb _ (atD_mem l k hk)
  have hs := h.small
  rw [show k - l.length = 0 by omega, Nat.pow_zero, Nat.mul_one] at hs
  refine ⟨?_, by simp [h.len], ?_, ?_⟩
  · intro x hx
    rcases List.mem_append.1 hx with hx | hx
    · exact h.lt x hx
    · simp at hx; omega
  · rw [valD_snoc, h.len, valD_take_succ l k hk, ← h.val, Nat.pow_succ]
    have e : left + atD l k = (left + atD l k) % 256 + 256 * ((left + atD l k) / 256) := by omega
    generalize (left + atD l k) % 256 = r at e ⊢
    generalize (left + atD l k) / 256 = q at e ⊢
    have : 256 ^ k * (left + atD l k) = 256 ^ k * (r + 256 * q) := by rw [e]
    rw [Nat.mul_add, Nat.mul_add, ← Nat.mul_assoc] at this
    omega
  · rw [show k + 1 - l.length = 0 by omega, Nat.pow_zero, Nat.mul_one]
    omega
theorem Car.shift {l : List Nat} {k left : Nat} {o : List Nat} (h : Car l k left o) (hk : l.length ≤ k) : Car l (k + 1) (left / 256) (o ++ [left % 256]) := by
  refine ⟨?_, by simp [h.len], ?_, ?_⟩
  · intro x hx
    rcases List.mem_append.1 hx with hx | hx
    · exact h.lt x hx
    · simp at hx; omega
  · have hv := h.val
    rw [List.take_of_length_le hk] at hv
    rw [valD_snoc, h.len, List.take_of_length_le (by omega), ← hv, Nat.pow_succ]
    have e : left = left % 256 + 256 * (left / 256) := by omega
    have : 256 ^ k * left = 256 ^ k * (left % 256 + 256 * (left / 256)) := by rw [← e]
    rw [Nat.mul_add, ← Nat.mul_assoc] at this
    omega
  · have hs := h.small
    rw [show k + 1 - l.length = (k - l.length) + 1 by omega, Nat.pow_succ]
    have h1 : left / 256 * 256 ≤ left := Nat.div_mul_le_self left 256
    have h2 : left / 256 * (256 ^ (k - l.length) * 256) = (left / 256 * 256) * 256 ^ (k - l.length) := by rw [Nat.mul_comm (256 ^ _) 256, ← Nat.mul_assoc]
    rw [h2]
    exact Nat.le_trans (Nat.mul_le_mul_right _ h1) hs
theorem Car.near {l : List Nat} {k left : Nat} {o : List Nat} (h : Car l k left o) (h0 : 0 < left) : k ≤ l.length + 6 := by
  have hs := h.small
  rcases Nat.lt_or_ge (l.length + 6) k with hh | hh
  · have h1 : 256 ^ 7 ≤ 256 ^ (k - l.length) := Nat.pow_le_pow_right (by decide) (by omega)
    have h2 : 1 * 256 ^ (k - l.length) ≤ left * 256 ^ (k - l.length) := Nat.mul_le_mul_right _ h0
    have h3 : (2 : Nat) ^ 50 < 256 ^ 7 := by decide
    omega
  · exact hh
theorem Car.left_le {l : List Nat} {k left : Nat} {o : List Nat} (h : Car l k left o) : left ≤ 2 ^ 50 :=
  Nat.le_trans (Nat.le_mul_of_pos_right left (Nat.pow_pos (by decide))) h.small

set_option maxHeartbeats 400000 in
set_option maxRecDepth 100000 in
theorem refCarry_any (a : Option Addr) (len cap : Nat) (l : List Nat) (w : World) (hI : Ints w a len l) (hd : ∀ x ∈ l, x ≤ 2 ^ 50) (hlc : len ≤ cap) (hlm : len ≤ 50000) :
    Calls Tryd.prog 55 #[.slice a len cap] w fun e w' => ∃ a' n cap', e = .returned (.slice a' n cap') ∧ Below w.heap.size w w' ∧ Ints w' a' n (dig (valD l)) ∧ n ≤ cap' := by
  have hl := hI.1
  have HI : Hid (Ints w a len l) := hI
  have HD : Hid (∀ x ∈ l, x ≤ 2 ^ 50) := hd
  clear hI hd
  go_enter Tryd.func55, Tryd.ntmps55
  go_wp2
  go_loopw [3, 4, 5] (fun v L i wr => ∃ (k left : Nat) (o : List Nat), i = .int .i64 k ∧ L = .int .i64 left ∧ Hid (k ≤ len + 7) ∧ Hid (Car l k left o) ∧ Hid (wr.ownsRow w.heap.size 3 1 v k (o.map iv)) ∧ Hid (Below w.heap.size w wr)) (fun _ L i _ => (len - (intOf i).toNat) * 2000000000000000 + (intOf L).toNat)
  case atStart =>
    refine ⟨0, 0, [], rfl, rfl, Nat.zero_le _, ⟨by simp, rfl, by simp [valD], by simp⟩, World.ownsRow_made w #[] 0 (Nat.le_refl _) (Nat.zero_le _) rfl, (Below.refl _ _).alloc (Nat.le_refl _) _⟩
  case round =>
    obtain ⟨k, left, o, rfl, rfl, hk7, hC, hO, hW⟩ := hrel
    have hL := hC.out.left_le
    have hL' : left ≤ 1125899906842624 := hL
    clear hL
    have hk7' := hk7.out
    by_cases hlt : k < len
    · obtain ⟨b, off, rfl, hc0⟩ := HI.out.at_ k hlt
      have hc : wr.cell? ⟨b, off + k, none⟩ = some (.int .i64 (atD l k : Int)) := by
        rw [hW.out.cell (p := ⟨b, off + k, none⟩) (World.block_lt_of_cell? w _ hc0)]; exact hc0
      have hx : atD l k ≤ 1125899906842624 := HD.out _ (atD_mem l k (by omega))
      have hki : (k : Int) < (len : Int) := by omega
      obtain ⟨s, hs⟩ : ∃ s, left + atD l k = s := ⟨_, rfl⟩
      have hsi : (left : Int) + (atD l k : Int) = (s : Int) := by omega
      have hC2 := hC.out.step (by omega) HD.out
      rw [hs] at hC2
      have hm : (s : Int).tmod 256 = ((s % 256 : Nat) : Int) := by rw [Int.tmod_eq_emod_of_nonneg (by omega)]; omega
      have hq : (s : Int).tdiv 256 = ((s / 256 : Nat) : Int) := by rw [Int.tdiv_eq_ediv_of_nonneg (by omega)]; omega
      obtain ⟨v2, w2, hap, own2, hg2⟩ := append_int wr w.heap.size _ k o hO.out (s % 256) hW.out.size (by omega)
      have HA : Hid (_) := hap
      have HO2 : Hid (w2.ownsRow w.heap.size 3 1 v2 (k + 1) ((o ++ [s % 256]).map iv)) := own2
      have HW2 : Hid (Below w.heap.size w w2) := hW.out.grown hg2 hW.out.size (fun j hj => (hO.out.lt j hj).1)
      have HC2 : Hid (Car l (k + 1) (s / 256) (o ++ [s % 256])) := hC2
      have hs2 : s / 256 ≤ 8796093022208 := by omega
      clear hap own2 hg2 hC2 hC hO hW hc0
      go_wp2_with (at_builtin; refine wpList_append_run rfl (.tmp 27) (.tmp 30) 53 rfl _ _ _ _ rfl rfl HA.out ?_)
      exact ⟨⟨k + 1, s / 256, _, by go_num, rfl, (by show _ ≤ _; omega), HC2, HO2, HW2⟩, by simp [intOf]; omega⟩
    · have hki : ¬ (k : Int) < (len : Int) := by omega
      by_cases h0 : left = 0
      · subst h0
        have hv : valD o = valD l := by
          have := hC.out.val
          rw [List.take_of_length_le (by omega)] at this
          simpa using this
        obtain ⟨a2, c2, rfl, hI2, hc2, hm2⟩ := ints_out hO.out
        have HLt : Hid (∀ x ∈ o, x < 256) := hC.out.lt
        have HV : Hid (valD o = valD l) := hv
        have HI2 : Hid (Ints wr a2 k o) := hI2
        clear hv hI2 hm2 hC hO
        go_wp2_with fail
        refine (refTrim_any a2 k c2 o wr HI2.out HLt.out hc2 (by omega)).mono ?_
        rintro e w' ⟨n, rfl, rfl, hn, hT⟩
        have HI3 : Hid (Ints w' a2 n (dig (valD l))) := by
          rw [← HV.out, ← hT]
          exact HI2.out.cut hn
        clear hT
        go_wp2
        go_ret
        exact ⟨a2, n, c2, rfl, hW.out, HI3.out, by omega⟩
      · have hpos : (0 : Int) < (left : Int) := by omega
        have hnear := hC.out.near (by omega)
        have hC2 := hC.out.shift (by omega)
        have hm : (left : Int).tmod 256 = ((left % 256 : Nat) : Int) := by rw [Int.tmod_eq_emod_of_nonneg (by omega)]; omega
        have hq : (left : Int).tdiv 256 = ((left / 256 : Nat) : Int) := by rw [Int.tdiv_eq_ediv_of_nonneg (by omega)]; omega
        obtain ⟨v2, w2, hap, own2, hg2⟩ := append_int wr w.heap.size _ k o hO.out (left % 256) hW.out.size (by omega)
        have HA : Hid (_) := hap
        have HO2 : Hid (w2.ownsRow w.heap.size 3 1 v2 (k + 1) ((o ++ [left % 256]).map iv)) := own2
        have HW2 : Hid (Below w.heap.size w w2) := hW.out.grown hg2 hW.out.size (fun j hj => (hO.out.lt j hj).1)
        have HC2 : Hid (Car l (k + 1) (left / 256) (o ++ [left % 256])) := hC2
        have hs2 : left / 256 < left := by omega
        clear hap own2 hg2 hC2 hC hO hW
        go_wp2_with (at_builtin; refine wpList_append_run rfl (.tmp 27) (.tmp 30) 53 rfl _ _ _ _ rfl rfl HA.out ?_)
        exact ⟨⟨k + 1, left / 256, _, by go_num, rfl, (by show _ ≤ _; omega), HC2, HO2, HW2⟩, by simp [intOf]; omega⟩
end Go.Proofs.YtmdoojfcgbokjaaDoor
