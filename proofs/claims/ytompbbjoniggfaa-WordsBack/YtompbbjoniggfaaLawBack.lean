/- WordsBack: what was put is got, in either order; the one order is the other one turned. For every row of bytes, size and number, without a condition. -/
import Derived.Test.YtompbbjoniggfaaRefG
namespace Go.Proofs.Ytompbbjoniggfaa.wordsBack
open Go.ChangeShapes Go.WideShapes Go.ChangeAt Go.RowKit
set_option linter.unusedVariables false

theorem and7 (x : Int) : bits .and .i64 x 7 = x % 8 := by
  have e : (BitVec.ofInt 64 x &&& BitVec.ofInt 64 7).toNat = (x % 8).toNat := by
    rw [BitVec.toNat_and, BitVec.toNat_ofInt]
    have h7 : (BitVec.ofInt 64 7).toNat = 2 ^ 3 - 1 := by decide
    rw [h7, Nat.and_two_pow_sub_one_eq_mod]
    omega
  show IntKind.i64.wrap ((BitVec.ofInt 64 x &&& BitVec.ofInt 64 7).toNat : Int) = _
  rw [e, IntKind.wrap_i64]
  omega
theorem put_left (l : List UInt8) (sz n : Nat) (big : Bool) (k : Nat) : at8 (l ++ putB sz n big) (l.length + k) = at8 (putB sz n big) k := by
  unfold at8
  rw [List.getD_eq_getElem?_getD, List.getD_eq_getElem?_getD, List.getElem?_append_right (by omega), Nat.add_sub_cancel_left]
theorem put_turned (l : List UInt8) (sz n k : Nat) (h : k < sz) : at8 (l ++ putB sz n true) (l.length + k) = at8 (l ++ putB sz n false) (l.length + (sz - 1 - k)) := by
  rw [put_left, put_left, at8_get _ _ (by rw [putB_length]; exact h), at8_get _ _ (by rw [putB_length]; omega)]
  simp only [putB, if_true, Bool.false_eq_true, if_false]
  rw [List.getElem_reverse]
  congr 1
  rw [leB_length]

theorem Below.drewN' {w w' : World} (h : Grows w w') (n : Nat) : Grows w (w'.drewN n) := below_drewN h n
theorem Byt.head {w : World} {a : Option Addr} {m k : Nat} {l r : List UInt8} (h : Byt w a (m + k) (l ++ r)) (hl : l.length = m) : Byt w a m l := by
  refine ⟨hl, ?_⟩
  rcases h.2 with h0 | ⟨b, off, e, hc⟩
  · exact .inl (by omega)
  · refine .inr ⟨b, off, e, fun i hi => ?_⟩
    rw [hc i (by omega), at8_get _ _ (by simp; omega), at8_get _ _ (by omega), List.getElem_append_left (by omega)]

set_option maxHeartbeats 2000000 in
set_option maxRecDepth 100000 in
theorem walk (a0 : Option Addr) (len0 cap0 : Nat) (z0 : List Int) (a1 : Int) (a2 : Int) (w : World)
    (w0 : IsRow .u8 w a0 len0 cap0 z0) (w1 : (Lit.int .i64 a1).wf = true) (w2 : (Lit.int .u64 a2).wf = true) :
    Calls Try.prog 7 #[.slice a0 len0 cap0, .int .i64 a1, .int .u64 a2] w fun e w' => e = .returned (.bool true) ∧ Below w.heap.size w w' := by
  obtain ⟨n, rfl, hn⟩ := u64_of a2 w2
  obtain ⟨l, m, hmE0, hm1, hm2, hlc, hcm, hBl⟩ := cut_row w0 50
  have hmE : (if (50 : Int) < (len0 : Int) then (50 : Int) else (len0 : Int)) = (m : Int) := hmE0
  have hl := hBl.1
  have h7 := and7 a1
  obtain ⟨r, hr, hr8⟩ : ∃ r : Nat, a1 % 8 = (r : Int) ∧ r ≤ 7 := ⟨(a1 % 8).toNat, by omega, by omega⟩
  rw [hr] at h7
  clear hmE0 w0 w1 w2 hr
  go_enter Try.func7, Try.ntmps7
  go_wp2_with fail
  refine (shown_any _).mono ?_
  rintro e w3 ⟨rfl, hb⟩
  have hB3 := hBl.later hb
  go_wp2_with fail
  have hone : (1 : Int) + (r : Int) = ((r + 1 : Nat) : Int) := by omega
  rw [hone]
  generalize hsz : r + 1 = sz
  rw [hsz] at hone
  have hs1 : 1 ≤ sz := by omega
  have hs8 : sz ≤ 8 := by omega
  clear hsz
  refine (put_any a0 m cap0 (sz : Int) n true l w3 (by omega) hB3 sz (by omega)).mono ?_
  rintro e w4 ⟨g4, rfl, _, hb4, hX4⟩
  have hA4 := hB3.later hb4
  have hw4 : Below w.heap.size w w4 := hb.trans (hb4.mono hb.size)
  clear hb hb4 hB3
  go_wp2_with fail
  refine (put_any a0 m cap0 (sz : Int) n false l w4 (by omega) hA4 sz (by omega)).mono ?_
  rintro e w5 ⟨g5, rfl, _, hb5, hY5⟩
  have hA5 := hA4.later hb5
  have hX5 := hX4.later hb5
  have hw5 : Below w.heap.size w w5 := hw4.trans (hb5.mono hw4.size)
  clear hb5 hA4 hX4 hw4
  go_wp2
  go_loopw [10] (fun i wr => ∃ k : Nat, k ≤ sz ∧ i = .int .i64 k ∧ Hid (Grows w5 wr)) (fun i _ => sz - (intOf i).toNat)
  case atStart => exact ⟨0, Nat.zero_le _, rfl, Grows.refl _⟩
  case round =>
    obtain ⟨k, hk, rfl, hG⟩ := hrel
    have hX := hX5.on hG.out
    have hY := hY5.on hG.out
    by_cases hlt : k < sz
    · have ht := put_turned l sz n k hlt
      rw [hl] at ht
      obtain ⟨q, hq, hqe⟩ : ∃ q : Nat, (m : Int) + (sz : Int) - 1 - (k : Int) = (q : Int) ∧ q = m + (sz - 1 - k) := ⟨m + (sz - 1 - k), by omega, rfl⟩
      rw [← hqe] at ht
      have hqlt : q < m + sz := by omega
      have cx : wr.cell? ⟨g4, m + k, none⟩ = some (.int .u8 ((at8 (l ++ putB sz n true) (m + k)).toNat : Int)) := by
        rcases hX.2 with h | ⟨b, off, e, hc⟩
        · omega
        · cases e
          have := hc (m + k) (by omega)
          rwa [Nat.zero_add] at this
      have cy : wr.cell? ⟨g5, q, none⟩ = some (.int .u8 ((at8 (l ++ putB sz n false) q).toNat : Int)) := by
        rcases hY.2 with h | ⟨b, off, e, hc⟩
        · omega
        · cases e
          have := hc q (by omega)
          rwa [Nat.zero_add] at this
      rw [ht] at cx
      generalize at8 (l ++ putB sz n false) q = c at cx cy
      have i1 : (m : Int) + (k : Int) < (m : Int) + (sz : Int) := by omega
      have i2 : (q : Int) < (m : Int) + (sz : Int) := by omega
      clear hqe ht hX hY
      go_wp2
      go_quiet (fail)
      go_wp2
      exact ⟨⟨k + 1, by omega, by go_num, Below.drewN' hG.out nq⟩, by simp [intOf]; omega⟩
    · have ek : k = sz := by omega
      subst ek
      have hA := hA5.on hG.out
      have hwr : Below w.heap.size w wr := hw5.trans (Below.mono hG.out hw5.size)
      obtain ⟨M, hM⟩ : ∃ M, n % 256 ^ k = M := ⟨_, rfl⟩
      have hv1 : getV (l ++ putB k n true) true m k = M := by have := getV_putB l k n true; rw [hl] at this; rw [this, hM]
      have hv2 : getV (l ++ putB k n false) false m k = M := by have := getV_putB l k n false; rw [hl] at this; rw [this, hM]
      have hmc : (m : Int) ≤ (m : Int) + (k : Int) := by omega
      have hmc8 : (m : Int) ≤ (m : Int) + 8 := by omega
      clear hA5 hX5 hY5 hG
      by_cases h8 : k < 8
      · have hmask := mask_val n k hn h8
        rw [hM] at hmask
        clear hM
        have HV1 : Hid (_) := hv1
        have HV2 : Hid (_) := hv2
        clear hv1 hv2
        go_wp2_with fail
        refine (get_yes g4 0 (m + k) (m + k) m k true (l ++ putB k n true) wr (by unfold maxLen; omega) (Nat.le_refl _) hX (by omega) (by omega) (by omega)).mono ?_
        rintro e wx ⟨rfl, rfl⟩
        rw [show getV (l ++ putB k n true) true m k = M from HV1.out]
        go_wp2_with fail
        refine (get_yes g5 0 (m + k) (m + k) m k false (l ++ putB k n false) wx (by unfold maxLen; omega) (Nat.le_refl _) hY (by omega) (by omega) (by omega)).mono ?_
        rintro e wy ⟨rfl, rfl⟩
        rw [show getV (l ++ putB k n false) false m k = M from HV2.out]
        go_wp2_with fail
        refine (get_no (some ⟨g5, 0, none⟩) (m + k) (m + k) ((m : Int) + 1) (k : Int) false wy (by unfold maxLen; omega) (by omega) (by omega)).mono ?_
        rintro e wz ⟨rfl, rfl⟩
        go_wp2
        refine wp_region_sched' (G := Grows) (by kernel_rfl) Grows.refl Grows.trans (by kernel_rfl) [(0, true), (1, true), (2, true), (3, true), (4, true), (5, true), (6, true), (7, true), (8, true), (9, true), (10, true), (11, true), (12, true), (13, true), (14, true), (15, true), (16, true), (17, true), (18, true), (19, true), (20, true), (21, true), (22, true), (23, true), (24, true), (25, true), (26, true), (27, true), (28, true), (29, true), (30, true), (31, true)] rfl (by kernel_rfl) ?_
        intro KK hKK
        have hwF : Below w.heap.size w wz.drew := hwr.drew
        have hA6 : Byt wz.drew a0 m l := hA.later (Below.refl _ _).drew
        have hX6 : Byt wz.drew (some ⟨g4, 0, none⟩) m l := (Byt.head hX hl).later (Below.refl _ _).drew
        generalize wz.drew = WF at hwF hA6 hX6 ⊢
        clear hX hY hA hwr
        iterate 26 (refine sched_take rfl (by rfl) (v := ?_) ?_ ?_; rotate_left; (intro w' hw'; go_simp; with_reducible rfl); go_simp)
        iterate 6 (refine sched_take rfl (by rfl) (v := ?_) ?_ ?_; rotate_left; (intro w' hw'; have q0 := conv_bytes w' a0 m cap0 l (hA6.on hw'); have q1 := conv_bytes w' (some ⟨g4, 0, none⟩) m (m + k) l (hX6.on hw'); go_simp; with_reducible rfl); go_simp)
        refine sched_done hKK ?_
        go_wp2
        go_ret
        exact ⟨rfl, hwF⟩
      · have e8 : k = 8 := by omega
        subst e8
        have hMn : M = n := by rw [← hM]; omega
        subst hMn
        clear hM
        have HV1 : Hid (_) := hv1
        have HV2 : Hid (_) := hv2
        clear hv1 hv2
        go_wp2_with fail
        refine (get_yes g4 0 (m + 8) (m + 8) m 8 true (l ++ putB 8 M true) wr (by unfold maxLen; omega) (Nat.le_refl _) hX (by omega) (by omega) (by omega)).mono ?_
        rintro e wx ⟨rfl, rfl⟩
        rw [show getV (l ++ putB 8 M true) true m 8 = M from HV1.out]
        go_wp2_with fail
        refine (get_yes g5 0 (m + 8) (m + 8) m 8 false (l ++ putB 8 M false) wx (by unfold maxLen; omega) (Nat.le_refl _) hY (by omega) (by omega) (by omega)).mono ?_
        rintro e wy ⟨rfl, rfl⟩
        rw [show getV (l ++ putB 8 M false) false m 8 = M from HV2.out]
        go_wp2_with fail
        refine (get_no (some ⟨g5, 0, none⟩) (m + 8) (m + 8) ((m : Int) + 1) 8 false wy (by unfold maxLen; omega) (by omega) (by omega)).mono ?_
        rintro e wz ⟨rfl, rfl⟩
        go_wp2
        refine wp_region_sched' (G := Grows) (by kernel_rfl) Grows.refl Grows.trans (by kernel_rfl) [(0, true), (1, true), (2, true), (3, true), (4, true), (5, true), (6, true), (7, true), (8, true), (9, true), (10, true), (11, true), (12, true), (13, true), (14, true), (15, true), (16, true), (17, true), (18, true), (19, true), (20, true), (21, true), (22, true), (23, true), (24, true), (25, true), (26, true), (27, true), (28, true), (29, true), (30, true), (31, true)] rfl (by kernel_rfl) ?_
        intro KK hKK
        have hwF : Below w.heap.size w wz.drew := hwr.drew
        have hA6 : Byt wz.drew a0 m l := hA.later (Below.refl _ _).drew
        have hX6 : Byt wz.drew (some ⟨g4, 0, none⟩) m l := (Byt.head hX hl).later (Below.refl _ _).drew
        generalize wz.drew = WF at hwF hA6 hX6 ⊢
        clear hX hY hA hwr
        iterate 26 (refine sched_take rfl (by rfl) (v := ?_) ?_ ?_; rotate_left; (intro w' hw'; go_simp; with_reducible rfl); go_simp)
        iterate 6 (refine sched_take rfl (by rfl) (v := ?_) ?_ ?_; rotate_left; (intro w' hw'; have q0 := conv_bytes w' a0 m cap0 l (hA6.on hw'); have q1 := conv_bytes w' (some ⟨g4, 0, none⟩) m (m + 8) l (hX6.on hw'); go_simp; with_reducible rfl); go_simp)
        refine sched_done hKK ?_
        go_wp2
        go_ret
        exact ⟨rfl, hwF⟩
end Go.Proofs.Ytompbbjoniggfaa.wordsBack
