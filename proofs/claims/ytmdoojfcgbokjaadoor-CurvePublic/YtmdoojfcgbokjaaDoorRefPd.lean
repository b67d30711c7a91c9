/- The walk over the document's Times. -/
import Derived.Test.YtmdoojfcgbokjaaDoorRefPc
namespace Go.Proofs.YtmdoojfcgbokjaaDoor
set_option linter.unusedVariables false
open Go.RowKit

/-- The product, as far as it is. -/
structure Tim (l m : List Nat) (i k : Nat) (o : List Nat) : Prop where
  len : o.length = l.length + m.length
  val : valD o = valD (l.take i) * valD m + 256 ^ i * atD l i * valD (m.take k)
  small : ∀ j, atD o j ≤ (i * m.length + k) * 65025
theorem Tim.step {l m : List Nat} {i k : Nat} {o : List Nat} (h : Tim l m i k o) (hi : i < l.length) (hk : k < m.length) (hl : ∀ x ∈ l, x < 256) (hm : ∀ x ∈ m, x < 256) : Tim l m i (k + 1) (o.set (i + k) (atD o (i + k) + atD l i * atD m k)) := by
  have h1 := atD_lt l hl i
  have h2 := atD_lt m hm k
  have hp : atD l i * atD m k ≤ 255 * 255 := Nat.mul_le_mul (by omega) (by omega)
  have hlen := h.len
  have hs : (i * m.length + (k + 1)) * 65025 = (i * m.length + k) * 65025 + 65025 := by rw [← Nat.add_assoc, Nat.add_mul (i * m.length + k) 1]
  refine ⟨by rw [List.length_set]; exact hlen, ?_, fun j => ?_⟩
  · rw [valD_set o (i + k) _ (by omega), h.val, valD_take_succ m k hk, Nat.mul_add, Nat.add_assoc]
    congr 2
    rw [Nat.pow_add, Nat.mul_assoc, Nat.mul_assoc, Nat.mul_left_comm (256 ^ k)]
  · rw [hs]
    have hsm := h.small
    generalize (i * m.length + k) * 65025 = B at hsm
    generalize atD l i * atD m k = t at hp
    by_cases e : i + k = j
    · subst e; rw [atD_set_same _ _ _ (by omega)]; have := hsm (i + k); omega
    · rw [atD_set_other _ _ _ _ e]; have := hsm j; omega
theorem Tim.next {l m : List Nat} {i : Nat} {o : List Nat} (h : Tim l m i m.length o) (hi : i < l.length) : Tim l m (i + 1) 0 o := by
  refine ⟨h.len, ?_, fun j => ?_⟩
  · have hv := h.val
    rw [List.take_of_length_le (Nat.le_refl _)] at hv
    rw [hv, valD_take_succ l i hi, Nat.add_mul]
    simp [valD]
  · have := h.small j
    rw [Nat.add_zero, Nat.add_mul i 1, Nat.one_mul]
    exact this

set_option maxHeartbeats 1000000 in
set_option maxRecDepth 100000 in
theorem refTimes_any (a : Option Addr) (len cap : Nat) (l : List Nat) (b : Option Addr) (lenb capb : Nat) (m : List Nat) (w : World) (hA : Ints w a len l) (hB : Ints w b lenb m) (hdl : ∀ x ∈ l, x < 256) (hdm : ∀ x ∈ m, x < 256) (hlm : len ≤ 10000) (hlb : lenb ≤ 10000) :
    Calls Tryd.prog 45 #[.slice a len cap, .slice b lenb capb] w fun e w' => ∃ a' n cap', e = .returned (.slice a' n cap') ∧ Below w.heap.size w w' ∧ Ints w' a' n (dig (valD l * valD m)) ∧ n ≤ cap' := by
  have hl := hA.1
  have hm := hB.1
  obtain ⟨n, hn⟩ : ∃ n, len + lenb = n := ⟨_, rfl⟩
  have e1 : (len : Int) + (lenb : Int) = (n : Int) := by omega
  have hn3 : n ≤ 20000 := by omega
  obtain ⟨W1, hmk, hM0⟩ := make_mine w n (by omega)
  have HM0 : Hid (Mine w w.heap.size (List.replicate n 0) W1) := hM0
  clear hM0
  have HA : Hid (Ints w a len l) := hA
  have HB : Hid (Ints w b lenb m) := hB
  have HDL : Hid (∀ x ∈ l, x < 256) := hdl
  have HDM : Hid (∀ x ∈ m, x < 256) := hdm
  clear hA hB hdl hdm
  have HT0 : Hid (Tim l m 0 0 (List.replicate n 0)) := ⟨by simp; omega, by simp [valD_replicate, valD], fun j => by rw [atD_replicate]; omega⟩
  go_enter Tryd.func45, Tryd.ntmps45
  go_wp2
  clear hmk e1
  go_loopw [6] (fun i wr => ∃ (k : Nat) (o : List Nat), k ≤ len ∧ i = .int .i64 k ∧ Hid (Tim l m k 0 o) ∧ Hid (Mine w w.heap.size o wr)) (fun i _ => len - (intOf i).toNat)
  case atStart => exact ⟨0, _, Nat.zero_le _, rfl, HT0, HM0⟩
  case round =>
    clear HT0 HM0
    obtain ⟨i, o, hi, rfl, hT, hM⟩ := hrel
    by_cases hlt : i < len
    · have hii : (i : Int) < (len : Int) := by omega
      go_wp2
      go_loopw [7] (fun v wr => ∃ (k : Nat) (o : List Nat), k ≤ lenb ∧ v = .int .i64 k ∧ Hid (Tim l m i k o) ∧ Hid (Mine w w.heap.size o wr)) (fun v _ => lenb - (intOf v).toNat)
      case atStart => exact ⟨0, _, Nat.zero_le _, rfl, hT, hM⟩
      case round =>
        clear hT hM
        obtain ⟨k, o, hk, rfl, hT, hM⟩ := hrel
        by_cases hlk : k < lenb
        · obtain ⟨ba, offa, rfl, hc0⟩ := HA.out.at_ i hlt
          obtain ⟨bb, offb, rfl, hc1⟩ := HB.out.at_ k hlk
          obtain ⟨W, hW⟩ : ∃ W, wr.drew = W := ⟨_, rfl⟩
          obtain ⟨p, hp⟩ : ∃ p, i + k = p := ⟨_, rfl⟩
          have hca : W.cell? ⟨ba, offa + i, none⟩ = some (.int .i64 (atD l i : Int)) := by
            rw [← hW, hM.out.bel.drew.cell (p := ⟨ba, offa + i, none⟩) (World.block_lt_of_cell? w _ hc0)]; exact hc0
          have hcb : W.cell? ⟨bb, offb + k, none⟩ = some (.int .i64 (atD m k : Int)) := by
            rw [← hW, hM.out.bel.drew.cell (p := ⟨bb, offb + k, none⟩) (World.block_lt_of_cell? w _ hc1)]; exact hc1
          have ho := hT.out.len
          have hd : W.cell? ⟨w.heap.size, p, none⟩ = some (.int .i64 (atD o p : Int)) := by rw [← hW]; exact (hM.out.row.at_ p (by omega)).1
          have hf : W.frozen? ⟨w.heap.size, p, none⟩ = false := by rw [← hW]; exact (hM.out.row.at_ p (by omega)).2
          have hx := atD_lt l HDL.out i
          have hy := atD_lt m HDM.out k
          have hz := hT.out.small p
          have hxy : atD l i * atD m k ≤ 255 * 255 := Nat.mul_le_mul (by omega) (by omega)
          have hik : i * m.length ≤ 10000 * 10000 := Nat.mul_le_mul (by omega) (by omega)
          have hs1 : IntKind.i64.wrap ((i : Int) + (k : Int)) = (p : Int) := by rw [IntKind.wrap_i64]; omega
          have hs2 : IntKind.i64.wrap ((atD l i : Int) * (atD m k : Int)) = ((atD l i * atD m k : Nat) : Int) := by
            rw [IntKind.wrap_i64, ← Int.natCast_mul]; omega
          have hs3 : IntKind.i64.wrap ((atD o p : Int) + ((atD l i * atD m k : Nat) : Int)) = ((atD o p + atD l i * atD m k : Nat) : Int) := by
            rw [IntKind.wrap_i64]; omega
          have HT : Hid (Tim l m i (k + 1) (o.set p (atD o p + atD l i * atD m k))) := by rw [← hp]; exact hT.out.step (by omega) (by omega) HDL.out HDM.out
          have HM : Hid (Mine w w.heap.size (o.set p (atD o p + atD l i * atD m k)) (W.setCell ⟨w.heap.size, p, none⟩ (.int .i64 ((atD o p + atD l i * atD m k : Nat) : Int)))) := by rw [← hW]; exact hM.out.set (Nat.le_refl _) p _
          have i2 : (k : Int) < (lenb : Int) := by omega
          have i3 : (p : Int) < (n : Int) := by omega
          have HW : Hid (wr.drew = W) := hW
          generalize atD o p + atD l i * atD m k = s at HM HT hs3
          generalize atD l i * atD m k = t at hs2 hs3
          clear hc0 hc1 hT hM hW hz hxy hik hp
          go_wp2
          refine wp_region_sched' (G := Stays) (by kernel_rfl) Stays.refl Stays.trans (by kernel_rfl) [(0, true), (1, true), (2, true), (3, true), (4, true), (5, true), (6, true), (7, true), (8, true), (9, true), (10, true), (11, true), (12, true), (13, true), (14, true), (15, true), (16, true), (17, true), (18, true), (19, true), (20, true), (21, false)] rfl (by kernel_rfl) ?_
          intro KK hKK
          rw [HW.out]
          iterate 21 (refine sched_take rfl (by rfl) (v := ?_) ?_ ?_; rotate_left; (rintro w' rfl; go_simp; with_reducible rfl); go_simp)
          refine sched_store rfl (by rfl) (w' := W.setCell ⟨w.heap.size, p, none⟩ (.int .i64 (s : Int))) (by go_simp) (by kernel_rfl) ?_
          go_simp
          refine sched_done hKK ?_
          go_wp2
          exact ⟨⟨k + 1, _, by omega, by go_num, HT, HM⟩, by simp [intOf]; omega⟩
        · have ek2 : k = lenb := by omega
          have hki2 : ¬ (k : Int) < (lenb : Int) := by omega
          have HT2 : Hid (Tim l m (i + 1) 0 o) := by
            have := hT.out
            rw [ek2, ← hm] at this
            exact this.next (by omega)
          clear hT
          go_wp2
          exact ⟨⟨i + 1, o, by omega, by go_num, HT2, hM⟩, by simp [intOf]; omega⟩
    · have ek : i = len := by omega
      have hki : ¬ (i : Int) < (len : Int) := by omega
      have HV : Hid (valD o = valD l * valD m) := by
        have hv := hT.out.val
        rw [List.take_of_length_le (by omega)] at hv
        show _ = _
        simpa [valD] using hv
      have HI : Hid (Ints wr (some ⟨w.heap.size, 0, none⟩) n o) := by
        have := hM.out.row.ints
        rwa [hT.out.len, hl, hm, hn] at this
      have HS : Hid (∀ x ∈ o, x ≤ 2 ^ 50) := fun x hx => by
        have h1 := mem_le o _ hT.out.small x hx
        have h2 : i * m.length ≤ 10000 * 10000 := Nat.mul_le_mul (by omega) (by omega)
        omega
      clear hT
      go_wp2_with fail
      refine (refCarry_any _ n n o wr HI.out HS.out (Nat.le_refl _) (by omega)).mono ?_
      rintro e w2 ⟨a2, n2, c2, rfl, hb2, hI2, hc2⟩
      have HR : Hid (Ints w2 a2 n2 (dig (valD l * valD m))) := by rw [← HV.out]; exact hI2
      have HB2 : Hid (Below w.heap.size w w2) := hM.out.bel.trans (hb2.mono hM.out.bel.size)
      clear hI2 hb2
      go_wp2
      go_ret
      exact ⟨a2, n2, c2, rfl, HB2.out, HR.out, hc2⟩
end Go.Proofs.YtmdoojfcgbokjaaDoor
