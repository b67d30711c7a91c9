/- The walks over the document's Mod, Number and Bytes. -/
import Derived.Test.YtmdoojfcgbokjaaDoorRefPe
import Derived.Test.YtmdoojfcgbokjaaDoorMathPoly
namespace Go.Proofs.YtmdoojfcgbokjaaDoor
set_option linter.unusedVariables false
open Go.RowKit

/-- The number that a slice of digits leads to, read out of memory. -/
def rdInts (wr : World) : Value → Nat
  | .slice (some x) n _ => valD ((List.range n).map fun i => match wr.cell? ⟨x.block, x.off + i, none⟩ with | some (.int _ z) => z.toNat | _ => 0)
  | _ => 0
theorem Ints.rd {w : World} {a : Option Addr} {n c : Nat} {l : List Nat} (h : Ints w a n l) : rdInts w (.slice a n c) = valD l := by
  have hl := h.1
  rcases h.2 with h0 | ⟨b, off, rfl, hc⟩
  · subst h0
    obtain rfl : l = [] := List.eq_nil_of_length_eq_zero hl
    cases a <;> simp [rdInts, valD]
  · show valD ((List.range n).map fun i => match w.cell? ⟨b, off + i, none⟩ with | some (.int _ z) => z.toNat | _ => 0) = valD l
    congr 1
    apply List.ext_getElem
    · simp [hl]
    · intro i h1 h2
      have hi : i < n := by omega
      simp only [List.getElem_map, List.getElem_range, hc i hi, Int.toNat_natCast]
      exact atD_get l i h2
theorem ints_one (w : World) (x : Nat) : Ints (w.alloc (.cells #[.int .i64 (x : Int)] 3)) (some ⟨w.heap.size, 0, none⟩) 1 [x] := by
  refine ⟨rfl, .inr ⟨w.heap.size, 0, rfl, fun i hi => ?_⟩⟩
  obtain rfl : i = 0 := by omega
  rw [cell_of_row _ w.heap.size (0 + 0) _ _ (0, 0) (heap_alloc_new w _)]
  simp [atD]
/-- The parts of a number, put together again by what 2 to the power is. -/
theorem fold_mod (x p less : Nat) (h : less ≤ p) : (x % p + x / p * less) % (p - less) = x % (p - less) := by
  have e : x = (x % p + x / p * less) + x / p * (p - less) := by
    rw [Nat.add_assoc, ← Nat.mul_add, show less + (p - less) = p by omega, Nat.mul_comm (x / p) p]
    have := Nat.div_add_mod x p
    omega
  have e2 : x % (p - less) = ((x % p + x / p * less) + x / p * (p - less)) % (p - less) := by rw [← e]
  rw [e2, Nat.mul_comm (x / p) (p - less), Nat.add_mul_mod_self_left]
theorem fold_lt (x p less : Nat) (h : less < p) (hx : 0 < x / p) : x % p + x / p * less < x := by
  have h1 := Nat.div_add_mod x p
  have h2 : x / p * less < x / p * p := Nat.mul_lt_mul_of_pos_left h hx
  rw [Nat.mul_comm (x / p) p] at h2
  omega

/-- From round to round: the digits, what they are modulo the modulus, and that they get no more. -/
structure Mo (x M len : Nat) (l : List Nat) : Prop where
  lt : ∀ c ∈ l, c < 256
  le : l.length ≤ len
  val : valD l < 256 ^ len
  mod : valD l % M = x % M

set_option maxHeartbeats 2000000 in
set_option maxRecDepth 100000 in
theorem refMod_any (a : Option Addr) (len cap : Nat) (l : List Nat) (q b less : Nat) (w : World) (hA : Ints w a len l) (hdl : ∀ x ∈ l, x < 256) (hlc : len ≤ cap) (hlm : len ≤ 5000) (hb : b < 8) (hq : q ≤ 1000) (hq1 : 2 ≤ q) (hs0 : 0 < less) (hs : less < 256) :
    Calls Tryd.prog 52 #[.slice a len cap, .int .i64 ((8 * q + b : Nat) : Int), .int .i64 (less : Int)] w fun e w' => ∃ a' n cap', e = .returned (.slice a' n cap') ∧ Below w.heap.size w w' ∧ Ints w' a' n (dig (valD l % (2 ^ (8 * q + b) - less))) ∧ n ≤ cap' := by
  have hl := hA.1
  obtain ⟨p, hp⟩ : ∃ p, 2 ^ (8 * q + b) = p := ⟨_, rfl⟩
  have hp1 : 65536 ≤ p := by rw [← hp]; exact (Nat.pow_le_pow_right (by decide) (show 16 ≤ 8 * q + b by omega) : 2 ^ 16 ≤ 2 ^ (8 * q + b))
  have hpn : p < 256 ^ (q + 1) := by rw [← hp, pow256]; exact Nat.pow_lt_pow_right (by decide) (by omega)
  have HPn : Hid (p < 256 ^ (q + 1)) := hpn
  have HP : Hid (2 ^ (8 * q + b) = p) := hp
  rw [hp]
  obtain ⟨x, hx⟩ : ∃ x, valD l = x := ⟨_, rfl⟩
  rw [hx]
  obtain ⟨M, hM⟩ : ∃ M, p - less = M := ⟨_, rfl⟩
  rw [hM]
  have HM : Hid (p - less = M) := hM
  have HI0 : Hid (Ints w a len l) := hA
  have HM0 : Hid (Mo x M len l) := ⟨hdl, by omega, by rw [← hl]; exact valD_lt l hdl, by rw [hx]⟩
  obtain ⟨N, hN⟩ : ∃ N, 8 * q + b = N := ⟨_, rfl⟩
  have HN : Hid (8 * q + b = N) := hN
  rw [hN]
  have hNb : N ≤ 8007 := by omega
  clear hA hdl hp hx hM hN hpn
  go_enter Tryd.func52, Tryd.ntmps52
  go_wp2
  go_loopw [0] (fun v wr => ∃ (n' c' : Nat) (a' : Option Addr) (l' : List Nat), v = .slice a' n' c' ∧ n' ≤ c' ∧ Hid (Ints wr a' n' l') ∧ Hid (Mo x M len l') ∧ Hid (Below w.heap.size w wr)) (fun v wr => rdInts wr v)
  case atStart => exact ⟨len, cap, a, l, rfl, hlc, HI0, HM0, Below.refl _ _⟩
  case round =>
    clear HI0 HM0
    obtain ⟨n', c', a', l', rfl, hnc', hI, hMo, hW⟩ := hrel
    have hln : l'.length = n' := hI.out.1
    have hnl : n' ≤ len := by have := hMo.out.le; omega
    obtain ⟨x', hx'⟩ : ∃ x', valD l' = x' := ⟨_, rfl⟩
    have HX' : Hid (valD l' = x') := hx'
    have HRd : Hid (rdInts wr (.slice a' n' c') = x') := by rw [← hx']; exact hI.out.rd
    clear hx'
    go_wp2_with fail
    have hcall := refParts_any a' n' c' l' q b wr hI.out hMo.out.lt (by omega) hb (by omega)
    rw [HN.out, HX'.out] at hcall
    refine hcall.mono ?_
    clear hcall
    rintro e w1 ⟨a1, n1, c1, a2, n2, c2, rfl, hb1, hI1, hn1, hI2, hn2⟩
    rw [show 2 ^ N = p by rw [← HN.out]; exact HP.out] at hI1 hI2
    have HI1 : Hid (Ints w1 a1 n1 (dig (x' % p))) := hI1
    have HI2 : Hid (Ints w1 a2 n2 (dig (x' / p))) := hI2
    have HW1 : Hid (Below w.heap.size w w1) := hW.out.trans (hb1.mono hW.out.size)
    have HIw : Hid (Ints w1 a' n' l') := hI.out.later hb1
    have hl1 : (dig (x' % p)).length = n1 := hI1.1
    have hl2 : (dig (x' / p)).length = n2 := hI2.1
    have hxl : x' < 256 ^ len := by rw [← HX'.out]; exact hMo.out.val
    have hn1b : n1 ≤ len := by rw [← hl1]; exact dig_length_le _ _ (Nat.lt_of_le_of_lt (Nat.mod_le _ _) hxl)
    have hn2b : n2 ≤ len := by rw [← hl2]; exact dig_length_le _ _ (Nat.lt_of_le_of_lt (Nat.div_le_self _ _) hxl)
    have HXL : Hid (x' < 256 ^ len) := hxl
    have HL2 : Hid ((dig (x' / p)).length = n2) := hl2
    clear hb1 hI1 hI2 hl1 hl2 hxl
    by_cases h0 : n2 = 0
    · have hx'p : x' < p := by
        have h1 := HL2.out
        rw [h0, dig_length_zero] at h1
        exact (Nat.div_eq_zero_iff.1 h1).resolve_left (by omega)
      have HXM : Hid (x' % M = x % M) := by rw [← HX'.out]; exact hMo.out.mod
      have HXP : Hid (x' < p) := hx'p
      have HLt : Hid (∀ c ∈ l', c < 256) := hMo.out.lt
      subst h0
      clear hx'p hI hMo hW HL2 HI1 HI2 hn1b hn2b
      go_wp2_with fail
      refine (refPlus_any a' n' c' l' (some ⟨w1.heap.size, 0, none⟩) 1 1 [less] _ (HIw.out.later ((Below.refl _ _).alloc (Nat.le_refl _) _)) (ints_one w1 less) HLt.out (by simp; omega) (by omega) (by omega)).mono ?_
      rintro e w2 ⟨a3, n3, c3, rfl, hb2, hI3, hn3⟩
      rw [HX'.out, show valD [less] = less by simp [valD]] at hI3
      have hb2' : Below w1.heap.size w1 w2 := ((Below.refl _ _).alloc (Nat.le_refl _) _).trans (hb2.mono (by simp))
      have HI3 : Hid (Ints w2 a3 n3 (dig (x' + less))) := hI3
      have HIw2 : Hid (Ints w2 a' n' l') := HIw.out.later hb2'
      have HW2 : Hid (Below w.heap.size w w2) := HW1.out.trans (hb2'.mono HW1.out.size)
      have hn3b : n3 ≤ q + 2 := by
        have h1 : (dig (x' + less)).length = n3 := hI3.1
        rw [← h1]
        refine dig_length_le _ _ ?_
        have h2 := HXP.out
        have h3 := HPn.out
        rw [Nat.pow_succ]
        omega
      clear hb2 hb2' hI3 HIw HW1
      go_wp2_with fail
      have hcall := refParts_any a3 n3 c3 _ q b w2 HI3.out (dig_lt _) (by omega) hb (by omega)
      rw [HN.out, valD_dig] at hcall
      refine hcall.mono ?_
      clear hcall
      rintro e w3 ⟨a4, n4, c4, a5, n5, c5, rfl, hb3, hI4, hn4, hI5, hn5⟩
      rw [show 2 ^ N = p by rw [← HN.out]; exact HP.out] at hI4 hI5
      have hl5 : (dig ((x' + less) / p)).length = n5 := hI5.1
      have HIw3 : Hid (Ints w3 a' n' l') := HIw2.out.later hb3
      have HW3 : Hid (Below w.heap.size w w3) := HW2.out.trans (hb3.mono HW2.out.size)
      clear hb3 hI4 hI5 HIw2 HW2 HI3
      by_cases h5 : n5 = 0
      · have hlow : x' < M := by
          rw [h5, dig_length_zero, Nat.div_eq_zero_iff] at hl5
          have := HM.out
          omega
        have HR : Hid (x % M = x') := by rw [← HXM.out]; exact Nat.mod_eq_of_lt hlow
        have h5i : (n5 : Int) = 0 := by omega
        subst h5
        clear hlow hl5
        go_wp2_with fail
        refine (refTrim_any a' n' c' l' w3 HIw3.out HLt.out hnc' (by omega)).mono ?_
        rintro e w4 ⟨m, rfl, rfl, hm, hR⟩
        have HR2 : Hid (Ints w4 a' m (dig (x % M))) := by
          rw [HR.out, ← HX'.out, ← hR]
          exact HIw3.out.cut hm
        clear hR
        go_wp2
        go_ret
        exact ⟨a', m, c', rfl, HW3.out, HR2.out, by omega⟩
      · have hhigh : p ≤ x' + less := by
          rcases Nat.lt_or_ge (x' + less) p with h1 | h1
          · exact absurd ((dig_length_zero _).2 (Nat.div_eq_of_lt h1)) (by rw [hl5]; exact h5)
          · exact h1
        have HR : Hid (x % M = (x' + less) % p) := by
          show _ = _
          have h1 := HM.out
          have h2 := HXP.out
          rw [← HXM.out]
          have e1 : (x' + less) % p = x' + less - p := by rw [Nat.mod_eq_sub_mod hhigh, Nat.mod_eq_of_lt (by omega)]
          have e2 : x' % M = x' - M := by rw [Nat.mod_eq_sub_mod (by omega), Nat.mod_eq_of_lt (by omega)]
          rw [e1, e2]
          omega
        have h5i : (0 : Int) < (n5 : Int) := by omega
        have h5j : ¬ (n5 : Int) = 0 := by omega
        clear hhigh hl5
        go_wp2_with fail
        refine (refPlus_any a' n' c' l' (some ⟨w3.heap.size, 0, none⟩) 1 1 [less] _ (HIw3.out.later ((Below.refl _ _).alloc (Nat.le_refl _) _)) (ints_one w3 less) HLt.out (by simp; omega) (by omega) (by omega)).mono ?_
        rintro e w4 ⟨a6, n6, c6, rfl, hb4, hI6, hn6⟩
        rw [HX'.out, show valD [less] = less by simp [valD]] at hI6
        have hb4' : Below w3.heap.size w3 w4 := ((Below.refl _ _).alloc (Nat.le_refl _) _).trans (hb4.mono (by simp))
        have HI6 : Hid (Ints w4 a6 n6 (dig (x' + less))) := hI6
        have HW4 : Hid (Below w.heap.size w w4) := HW3.out.trans (hb4'.mono HW3.out.size)
        have hn6b : n6 ≤ q + 2 := by
          have h1 : (dig (x' + less)).length = n6 := hI6.1
          rw [← h1]
          refine dig_length_le _ _ ?_
          have h2 := HXP.out
          have h3 := HPn.out
          rw [Nat.pow_succ]
          omega
        clear hb4 hb4' hI6 HIw3 HW3
        go_wp2_with fail
        have hcall := refParts_any a6 n6 c6 _ q b w4 HI6.out (dig_lt _) (by omega) hb (by omega)
        rw [HN.out, valD_dig] at hcall
        refine hcall.mono ?_
        clear hcall
        rintro e w5 ⟨a7, n7, c7, a8, n8, c8, rfl, hb5, hI7, hn7, hI8, hn8⟩
        rw [show 2 ^ N = p by rw [← HN.out]; exact HP.out] at hI7
        have HI7 : Hid (Ints w5 a7 n7 (dig (x % M))) := by rw [HR.out]; exact hI7
        have HW5 : Hid (Below w.heap.size w w5) := HW4.out.trans (hb5.mono HW4.out.size)
        clear hb5 hI7 hI8 HW4 HI6
        go_wp2
        go_ret
        exact ⟨a7, n7, c7, rfl, HW5.out, HI7.out, hn7⟩
    · have hpos : 0 < x' / p := by
        rcases Nat.eq_zero_or_pos (x' / p) with h1 | h1
        · exact absurd ((dig_length_zero _).2 h1) (by rw [HL2.out]; exact h0)
        · exact h1
      have h0i : ¬ (n2 : Int) = 0 := by omega
      have HFm : Hid ((x' % p + x' / p * less) % M = x % M) := by
        show _ = _
        rw [← HM.out, fold_mod x' p less (by omega), ← HX'.out, HM.out]
        exact hMo.out.mod
      have HFl : Hid (x' % p + x' / p * less < x') := fold_lt x' p less (by omega) hpos
      clear hpos hI hMo hW HL2 HIw
      go_wp2_with fail
      refine (refTimes_any a2 n2 c2 _ (some ⟨w1.heap.size, 0, none⟩) 1 1 [less] _ (HI2.out.later ((Below.refl _ _).alloc (Nat.le_refl _) _)) (ints_one w1 less) (dig_lt _) (by simp; omega) (by omega) (by omega)).mono ?_
      rintro e w2 ⟨a3, n3, c3, rfl, hb2, hI3, hn3⟩
      rw [valD_dig, show valD [less] = less by simp [valD]] at hI3
      have hb2' : Below w1.heap.size w1 w2 := ((Below.refl _ _).alloc (Nat.le_refl _) _).trans (hb2.mono (by simp))
      have HI3 : Hid (Ints w2 a3 n3 (dig (x' / p * less))) := hI3
      have HI1' : Hid (Ints w2 a1 n1 (dig (x' % p))) := HI1.out.later hb2'
      have HW2 : Hid (Below w.heap.size w w2) := HW1.out.trans (hb2'.mono HW1.out.size)
      have hn3b : n3 ≤ len := by
        have h1 : (dig (x' / p * less)).length = n3 := hI3.1
        rw [← h1]
        refine dig_length_le _ _ ?_
        have h2 := HFl.out
        have h3 := HXL.out
        omega
      clear hb2 hb2' hI3 HI1 HI2 HW1
      go_wp2_with fail
      refine (refPlus_any a1 n1 c1 _ a3 n3 c3 _ _ HI1'.out HI3.out (dig_lt _) (dig_lt _) (by omega) (by omega)).mono ?_
      rintro e w3 ⟨a4, n4, c4, rfl, hb3, hI4, hn4⟩
      rw [valD_dig, valD_dig] at hI4
      have HI4 : Hid (Ints w3 a4 n4 (dig (x' % p + x' / p * less))) := hI4
      have HW3 : Hid (Below w.heap.size w w3) := HW2.out.trans (hb3.mono HW2.out.size)
      have HMo4 : Hid (Mo x M len (dig (x' % p + x' / p * less))) := by
        have h2 := HFl.out
        have h3 := HXL.out
        refine ⟨dig_lt _, dig_length_le _ _ (by omega), by rw [valD_dig]; omega, by rw [valD_dig]; exact HFm.out⟩
      clear hb3 hI4 HI3 HI1' HW2
      go_wp2
      refine ⟨⟨n4, c4, a4, _, rfl, hn4, HI4, HMo4, HW3⟩, ?_⟩
      have hm : rdInts w3 (.slice a4 n4 c4) < rdInts wr (.slice a' n' c') := by
        rw [HRd.out, HI4.out.rd, valD_dig]
        exact HFl.out
      simpa using hm

set_option maxHeartbeats 400000 in
set_option maxRecDepth 100000 in
theorem refNumber_any (a : Option Addr) (len cap : Nat) (l : List UInt8) (w : World) (hA : Byt w a len l) (hlm : len ≤ 20000) :
    Calls Tryd.prog 40 #[.slice a len cap] w fun e w' => ∃ a' n cap', e = .returned (.slice a' n cap') ∧ Below w.heap.size w w' ∧ Ints w' a' n (dig (leN l)) ∧ n ≤ cap' := by
  have hl := hA.1
  have HA : Hid (Byt w a len l) := hA
  clear hA
  go_enter Tryd.func40, Tryd.ntmps40
  go_wp2
  go_loopw [3, 4] (fun v i wr => ∃ k : Nat, k ≤ len ∧ i = .int .i64 k ∧ Hid (wr.ownsRow w.heap.size 3 1 v k (((l.take k).map fun c => c.toNat).map iv)) ∧ Hid (Below w.heap.size w wr)) (fun _ i _ => len - (intOf i).toNat)
  case atStart =>
    refine ⟨0, Nat.zero_le _, rfl, World.ownsRow_made w #[] 0 (Nat.le_refl _) (Nat.zero_le _) rfl, (Below.refl _ _).alloc (Nat.le_refl _) _⟩
  case round =>
    obtain ⟨k, hk, rfl, hO, hW⟩ := hrel
    by_cases hlt : k < len
    · obtain ⟨b, off, rfl, hc0⟩ := HA.out.at_ k hlt
      have hc : wr.cell? ⟨b, off + k, none⟩ = some (.int .u8 ((at8 l k).toNat : Int)) := by
        rw [hW.out.cell (p := ⟨b, off + k, none⟩) (World.block_lt_of_cell? w _ hc0)]; exact hc0
      have hx := (at8 l k).toNat_lt
      have hki : (k : Int) < (len : Int) := by omega
      obtain ⟨v2, w2, hap, own2, hg2⟩ := append_int wr w.heap.size _ k _ hO.out (at8 l k).toNat hW.out.size (by omega)
      have HA2 : Hid (_) := hap
      have HO2 : Hid (w2.ownsRow w.heap.size 3 1 v2 (k + 1) (((l.take (k + 1)).map fun c => c.toNat).map iv)) := by
        rw [take_at l k (by omega), List.map_append]
        exact own2
      have HW2 : Hid (Below w.heap.size w w2) := hW.out.grown hg2 hW.out.size (fun j hj => (hO.out.lt j hj).1)
      clear hap own2 hg2 hO hW hc0
      go_wp2_with (at_builtin; refine wpList_append_run rfl (.tmp 12) (.tmp 18) 53 rfl _ _ _ _ rfl rfl HA2.out ?_)
      exact ⟨⟨k + 1, by omega, by go_num, HO2, HW2⟩, by simp [intOf]; omega⟩
    · have hki : ¬ (k : Int) < (len : Int) := by omega
      obtain ⟨a2, c2, rfl, hI2, hc2, hm2⟩ := ints_out hO.out
      rw [List.take_of_length_le (by omega)] at hI2
      have HI2 : Hid (Ints wr a2 k (l.map fun c => c.toNat)) := hI2
      have HLt : Hid (∀ x ∈ l.map (fun c : UInt8 => c.toNat), x < 256) := by
        intro x hx
        simp only [List.mem_map] at hx
        obtain ⟨c, _, rfl⟩ := hx
        exact c.toNat_lt
      clear hI2 hm2 hO
      go_wp2_with fail
      refine (refTrim_any a2 k c2 _ wr HI2.out HLt.out hc2 (by omega)).mono ?_
      rintro e w' ⟨n, rfl, rfl, hn, hT⟩
      rw [valD_bytes] at hT
      have HI3 : Hid (Ints w' a2 n (dig (leN l))) := by rw [← hT]; exact HI2.out.cut hn
      clear hT
      go_wp2
      go_ret
      exact ⟨a2, n, c2, rfl, hW.out, HI3.out, by omega⟩
end Go.Proofs.YtmdoojfcgbokjaaDoor
