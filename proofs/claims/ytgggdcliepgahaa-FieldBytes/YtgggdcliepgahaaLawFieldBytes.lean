/- FieldBytes. For every key, without a condition. -/
import Derived.Test.YtgggdcliepgahaaFieldShown
namespace Go.Proofs.Ytgggdcliepgahaa.fieldBytes
open Go.ChangeShapes Go.WideShapes Go.ChangeAt Go.RowKit
set_option linter.unusedVariables false

def top (k : Nat) : Nat := 2 ^ (255 - 8 * k) - 1
/-- Whether what is above the first k bytes is less than it could be. -/
def low (x k : Nat) : Bool := decide (x / 256 ^ k ≠ top k)
theorem byte_at (x k : Nat) (hk : k < 32) : (at8 (leB 32 x) k).toNat = x / 256 ^ k % 256 := by
  rw [at8_get _ _ (by rw [leB_length]; exact hk), leB_get 32 x k hk, UInt8.toNat_ofNat']
  omega
theorem top_step (k : Nat) (hk : k ≤ 30) : top k = 256 * top (k + 1) + 255 := by
  unfold top
  have e : 255 - 8 * k = (255 - 8 * (k + 1)) + 8 := by omega
  have h : 0 < 2 ^ (255 - 8 * (k + 1)) := Nat.pow_pos (by decide)
  rw [e, Nat.pow_add]
  omega
theorem low_step (x k : Nat) (hk : k ≤ 30) : low x k = (low x (k + 1) || decide (x / 256 ^ k % 256 ≠ 255)) := by
  have e : x / 256 ^ (k + 1) = x / 256 ^ k / 256 := by rw [Nat.pow_succ, Nat.div_div_eq_div_mul]
  have ht := top_step k hk
  unfold low
  rw [e, ht]
  generalize x / 256 ^ k = q
  generalize top (k + 1) = t
  rw [Bool.eq_iff_iff, Bool.or_eq_true, decide_eq_true_iff, decide_eq_true_iff, decide_eq_true_iff]
  omega
theorem low_first (x : Nat) (hx : x < P255) : low x 31 = decide (x / 256 ^ 31 % 256 < 127) := by
  have h : x / 256 ^ 31 < 128 := by
    rw [Nat.div_lt_iff_lt_mul (by decide)]
    exact Nat.lt_trans hx (by decide)
  have ht : top 31 = 127 := by decide
  unfold low
  rw [ht, Bool.eq_iff_iff, decide_eq_true_iff, decide_eq_true_iff]
  omega
theorem low_last (x : Nat) (hx : x < P255) (h : low x 1 = false) : x / 256 ^ 0 % 256 < 237 := by
  unfold low at h
  rw [decide_eq_false_iff_not] at h
  have ht : top 1 = 226156424291633194186662080095093570025917938800079226639565593765455331327 := by decide
  have hp : P255 = 57896044618658097711785492504343953926634992332820282019728792003956564819949 := rfl
  rw [ht] at h
  simp only [Nat.pow_one, Nat.pow_zero, Nat.div_one] at h ⊢
  omega
theorem high_byte (x : Nat) (hx : x < P255) : x / 256 ^ 31 % 256 < 128 := by
  have h : x / 256 ^ 31 < 128 := by
    rw [Nat.div_lt_iff_lt_mul (by decide)]
    exact Nat.lt_trans hx (by decide)
  omega
/-- The highest bit does not count. -/
theorem flip_mod (l : List UInt8) (hl : l.length = 32) : leN (l.set 31 (at8 l 31 ^^^ 128)) % 2 ^ 255 = leN l % 2 ^ 255 := by
  have hx : (at8 l 31 ^^^ 128).toNat % 128 = (at8 l 31).toNat % 128 := by
    rw [UInt8.toNat_xor, show (128 : Nat) = 2 ^ 7 from rfl, Nat.xor_mod_two_pow]
    simp
  have e1 : l = l.take 31 ++ [at8 l 31] := by
    rw [← take_at l 31 (by omega), List.take_of_length_le (by omega)]
  have h1 : (l.take 31).length = 31 := by simp; omega
  have e2 : l.set 31 (at8 l 31 ^^^ 128) = l.take 31 ++ [at8 l 31 ^^^ 128] := by
    generalize hb : at8 l 31 = b at *
    rw [e1, List.set_append_right _ _ (by omega)]
    simp [hl]
  have key : ∀ c : UInt8, leN (l.take 31 ++ [c]) % 2 ^ 255 = (leN (l.take 31) + 256 ^ 31 * (c.toNat % 128)) % 2 ^ 255 := by
    intro c
    rw [leN_append, h1]
    have e3 : leN [c] = c.toNat := by simp [leN]
    have e4 : (2 : Nat) ^ 255 = 256 ^ 31 * 128 := by decide
    have e5 : 256 ^ 31 * c.toNat = 256 ^ 31 * (c.toNat % 128) + 256 ^ 31 * 128 * (c.toNat / 128) := by
      rw [Nat.mul_assoc, ← Nat.mul_add, Nat.mod_add_div]
    rw [e3, e4, e5, ← Nat.add_assoc, Nat.add_mul_mod_self_left]
  rw [e2, key, hx, ← key, ← e1]
def zero32K : Array Value := (List.replicate 32 (Value.int .u8 0)).toArray
/-- The key, the least bytes, and the key with its highest bit turned. -/
structure By (w : World) (l0 : List UInt8) (gb gc x : Nat) (c : List UInt8) (W : World) : Prop where
  b : Arr W gb 23 (leB 32 x)
  c : Arr W gc 23 c
  bel : Below w.heap.size w W
theorem By.later {w W W' : World} {l0 : List UInt8} {gb gc x : Nat} {c : List UInt8} (y : By w l0 gb gc x c W) (hb : Below W.heap.size W W') : By w l0 gb gc x c W' :=
  ⟨y.b.later hb, y.c.later hb, y.bel.trans (hb.mono y.bel.size)⟩

set_option maxHeartbeats 4000000 in
set_option maxRecDepth 100000 in
theorem walk (l0 : List UInt8) (w : World) (w0 : l0.length = 32) :
    Calls Try.prog 4 #[.agg (l0.map bv).toArray] w fun e w' => e = .returned (.bool true) ∧ Below w.heap.size w w' := by
  have hI : Hid (∀ l : List UInt8, l.length = 32 → (Try.prog.info? 23).map (·.size) = some (l.map bv).toArray.size) := fun l hl => info_size (n := 32) (by kernel_rfl) l hl
  obtain ⟨x, hx⟩ : ∃ x, leN l0 % 2 ^ 255 % P255 = x := ⟨_, rfl⟩
  have hxl : x < P255 := by rw [← hx]; exact Nat.mod_lt _ P255_pos
  obtain ⟨C, hC⟩ : ∃ C, l0.set 31 (at8 l0 31 ^^^ 128) = C := ⟨_, rfl⟩
  have hCl : C.length = 32 := by rw [← hC, List.length_set, w0]
  have HC : Hid (leN C % 2 ^ 255 % P255 = x) := by show _ = _; rw [← hC, flip_mod l0 w0, hx]
  have HB : Hid (leN (leB 32 x) % 2 ^ 255 % P255 = x) := by
    show _ = _
    rw [leN_leB, Nat.mod_eq_of_lt (Nat.lt_trans hxl P255_lt), Nat.mod_eq_of_lt (Nat.lt_trans hxl (by decide)), Nat.mod_eq_of_lt hxl]
  have HX : Hid (leN l0 % 2 ^ 255 % P255 = x) := hx
  have HCs : Hid (l0.set 31 (at8 l0 31 ^^^ 128) = C) := hC
  clear hx hC
  have hll : (leB 32 x).length = 32 := leB_length _ _
  have H31 := byte_at x 31 (by omega)
  obtain ⟨t31, ht31⟩ : ∃ t, (at8 (leB 32 x) 31).toNat = t := ⟨_, rfl⟩
  have HT31 : Hid (x / 256 ^ 31 % 256 = t31) := by show _ = _; rw [← H31, ht31]
  have hl31 := high_byte x hxl
  rw [HT31.out] at hl31
  clear H31
  go_enter Try.func4, Try.ntmps4
  go_wp2_with fail
  refine (fshown_any _).mono ?_
  rintro e V0 ⟨rfl, hb⟩
  obtain ⟨hk0, hbw⟩ := keys1 w l0
  have HK0 : Hid (Arr V0 w.heap.size 23 l0) := hk0.later hb
  have HW : Hid (Below w.heap.size w V0) := hbw.trans (hb.mono hbw.size)
  clear hb hbw hk0
  go_wp2_with (first | refine wpList_load_met (by rfl) 23 _ rfl w.heap.size rfl 23 _ (0, 0) _ HK0.out Try.underlying23 rfl (hI.out l0 w0) ?_ | fail)
  refine (ffrom_any l0 V0 w0).mono ?_
  rintro e V1 ⟨c1, rfl, he, hb⟩
  rw [HX.out] at he
  have HE : Hid (Elm c1 x) := he
  replace HK0 := hidup (HK0.out.later hb)
  replace HW := hidup (HW.out.trans (hb.mono HW.out.size))
  clear he hb
  go_wp2_with fail
  refine (fbytes_any c1 x V1 HE.out).mono ?_
  rintro e V2 ⟨rfl, hb⟩
  have hst := run_store_arr V2 23 (leB 32 x) 32 (leB_length _ _) (by kernel_rfl) zero32K (by kernel_rfl)
  have hA := Arr.new V2 23 (leB 32 x)
  have hb2 : Below V1.heap.size V1 (V2.alloc (.cells ((leB 32 x).map bv).toArray 23)) := hb.alloc hb.size _
  obtain ⟨W2, hW2⟩ : ∃ W2, V2.alloc (.cells ((leB 32 x).map bv).toArray 23) = W2 := ⟨_, rfl⟩
  rw [hW2] at hst hA hb2
  simp only [zero32K, List.replicate] at hst
  replace HK0 := hidup (HK0.out.later hb2)
  replace HW := hidup (HW.out.trans (hb2.mono HW.out.size))
  have HAb : Hid (Arr W2 V2.heap.size 23 (leB 32 x)) := hA
  have hz2 : w.heap.size ≤ V2.heap.size := by have h8 := HK0.out.lt; rw [← hW2] at h8; simp at h8; omega
  have hgb : w.heap.size ≤ V2.heap.size ∧ V2.heap.size < W2.heap.size := ⟨hz2, hA.lt⟩
  clear hz2
  clear hb hb2 hA hW2 HE
  have hst2 := run_store_arr W2 23 l0 32 w0 (by kernel_rfl) zero32K (by kernel_rfl)
  have hAc := Arr.new W2 23 l0
  have hb3 : Below W2.heap.size W2 (W2.alloc (.cells (l0.map bv).toArray 23)) := (Below.refl _ _).alloc (Nat.le_refl _) _
  obtain ⟨W3, hW3⟩ : ∃ W3, W2.alloc (.cells (l0.map bv).toArray 23) = W3 := ⟨_, rfl⟩
  rw [hW3] at hst2 hAc hb3
  simp only [zero32K, List.replicate] at hst2
  obtain ⟨cc, fc⟩ := hAc.at_ 31 (by omega)
  obtain ⟨d, hd⟩ : ∃ d, at8 l0 31 ^^^ 128 = d := ⟨_, rfl⟩
  obtain ⟨d', hd'⟩ : ∃ d', d.toNat = d' := ⟨_, rfl⟩
  have xv : bits .xor .u8 ((at8 l0 31).toNat : Int) 128 = (d' : Int) := by rw [← hd', ← hd]; exact xor_val8 (at8 l0 31) 128
  obtain ⟨s', hs'⟩ : ∃ s', (at8 l0 31).toNat = s' := ⟨_, rfl⟩
  rw [hs'] at xv cc
  have hA4 := hAc.set 31 d
  rw [← hd, HCs.out, hd, hd'] at hA4
  have hAb4 := (HAb.out.later hb3).other (g' := W2.heap.size) (by omega) 31 (.int .u8 (d' : Int))
  have HS : Hid (By w l0 V2.heap.size W2.heap.size x C (W3.setCell ⟨W2.heap.size, 31, none⟩ (.int .u8 (d' : Int)))) :=
    ⟨hAb4, hA4, (HW.out.trans (hb3.mono HW.out.size)).setCell (show w.heap.size ≤ W2.heap.size by omega) _⟩
  obtain ⟨W4, hW4⟩ : ∃ W4, W3.setCell ⟨W2.heap.size, 31, none⟩ (.int .u8 (d' : Int)) = W4 := ⟨_, rfl⟩
  rw [hW4] at HS
  obtain ⟨cb, fb⟩ := HS.out.b.at_ 31 (by rw [leB_length]; omega)
  rw [ht31] at cb
  clear hA4 hAb4 hAc hb3 hW3 HAb HW hd hd' hs' ht31 hgb
  go_wp2_with (first | refine wpList_load_met (by rfl) 23 _ rfl w.heap.size rfl 23 _ (0, 0) _ HK0.out Try.underlying23 rfl (hI.out l0 w0) ?_ | fail)
  have hz0 : decide ((t31 : Int) < 127) = low x (30 + 1) := by
    have h := low_first x hxl
    rw [HT31.out] at h
    rw [h, Bool.eq_iff_iff, decide_eq_true_iff, decide_eq_true_iff]
    omega
  rw [hz0]
  clear hst hst2 cc fc cb fb xv hW4 hz0
  generalize V2.heap.size = gb at *
  generalize W2.heap.size = gc at *
  go_loopw [6, 7] (fun z i wr => ∃ k : Nat, k ≤ 30 ∧ z = .bool (low x (k + 1)) ∧ i = .int .i64 k ∧ Hid (By w l0 gb gc x C wr)) (fun _ i _ => (intOf i).toNat)
  case atStart => exact ⟨30, Nat.le_refl _, rfl, rfl, HS⟩
  case round =>
    clear HS
    obtain ⟨k, hk, rfl, rfl, hS⟩ := hrel
    by_cases hk0 : 0 < k
    · have hki : (0 : Int) < (k : Int) := by omega
      have hki2 : (k : Int) < 32 := by omega
      obtain ⟨cb, fb⟩ := hS.out.b.at_ k (by omega)
      obtain ⟨t, ht⟩ : ∃ t, (at8 (leB 32 x) k).toNat = t := ⟨_, rfl⟩
      have hb := byte_at x k (by omega)
      have hls := low_step x k (by omega)
      rw [← hb, ht] at hls
      rw [ht] at cb
      have hk1 : (k - 1 : Nat) + 1 = k := by omega
      have HK1 : Hid ((k : Int) - 1 = ((k - 1 : Nat) : Int)) := by show _ = _; omega
      clear hb ht
      by_cases hz : low x (k + 1) = true
      · rw [hz] at hls ⊢
        have HL : Hid (low x k = true) := by rw [hls]; exact rfl
        clear hls
        go_wp2
        refine ⟨⟨k - 1, by omega, ?_, ?_, hS⟩, by simp [intOf]; omega⟩
        · rw [hk1, HL.out]
        · rw [HK1.out]
      · have hz : low x (k + 1) = false := by simpa using hz
        rw [hz, Bool.false_or] at hls
        rw [hz]
        by_cases h255 : t = 255
        · have hti : (t : Int) = 255 := by omega
          have HL : Hid (low x k = false) := by show _ = _; rw [hls]; simp [h255]
          clear hls h255
          go_wp2
          refine ⟨⟨k - 1, by omega, ?_, ?_, hS⟩, by simp [intOf]; omega⟩
          · rw [hk1, HL.out]
          · rw [HK1.out]
        · have hti : ¬ (t : Int) = 255 := by omega
          have HL : Hid (low x k = true) := by show _ = _; rw [hls]; simp [h255]
          clear hls h255
          go_wp2
          refine ⟨⟨k - 1, by omega, ?_, ?_, hS⟩, by simp [intOf]; omega⟩
          · rw [hk1, HL.out, show ((t : Int) != 255) = true by simpa using hti]
          · rw [HK1.out]
    · have ek : k = 0 := by omega
      subst ek
      have hki : ¬ (0 : Int) < ((0 : Nat) : Int) := by omega
      have H0 := byte_at x 0 (by omega)
      obtain ⟨t0, ht0⟩ : ∃ t, (at8 (leB 32 x) 0).toNat = t := ⟨_, rfl⟩
      obtain ⟨u31, hu31⟩ : ∃ t, (at8 (leB 32 x) 31).toNat = t := ⟨_, rfl⟩
      have hu : u31 < 128 := by rw [← hu31, byte_at x 31 (by omega)]; exact high_byte x hxl
      have hui : (u31 : Int) < 128 := by omega
      have H237 : Hid (low x (0 + 1) = false → t0 < 237) := fun h => by rw [← ht0, H0]; exact low_last x hxl h
      have HT0 : Hid ((at8 (leB 32 x) 0).toNat = t0) := ht0
      have HU31 : Hid ((at8 (leB 32 x) 31).toNat = u31) := hu31
      have hdr : Below wr.heap.size wr wr.drew := (Below.refl _ _).drew
      have HS := hidup (hS.out.later hdr)
      clear H0 ht0 hu31 hS hdr hu hl31 HT31
      obtain ⟨z, hz⟩ : ∃ z, low x (0 + 1) = z := ⟨_, rfl⟩
      rw [hz] at H237 ⊢
      clear hz
      go_wp2_with fail
      obtain ⟨W, hWd⟩ : ∃ W, wr.drew = W := ⟨_, rfl⟩
      have HWd : Hid (wr.drew = W) := hWd
      rw [hWd] at HS
      clear hWd
      cases z
      · refine wp_region_sched' (G := Grows) (by kernel_rfl) Grows.refl Grows.trans (by kernel_rfl) [(0, true), (1, true), (2, true), (5, true), (3, false), (4, false), (6, true), (7, true), (8, true), (9, true), (12, true), (10, false), (11, false), (13, true), (14, true), (15, true), (16, true), (17, true), (18, true), (19, true), (20, true), (21, true), (22, true), (23, true), (24, true), (25, true), (26, true), (27, true), (28, true)] rfl (by kernel_rfl) ?_
        intro KK hKK
        rw [HWd.out]
        clear HWd
        iterate 2 (refine sched_take rfl (by rfl) (v := ?_) ?_ ?_; rotate_left; (intro w' hw'; clear hw'; go_simp; with_reducible rfl); go_simp)
        refine sched_take rfl (by rfl) (v := .agg ((leB 32 x).map bv).toArray) (fun w' hw' => exec_load_row 23 _ rfl gb rfl 23 _ (0, 0) _ (HS.out.later hw').b Try.underlying23 rfl (hI.out _ (leB_length _ _))) ?_
        go_simp
        refine sched_take rfl (by rfl) (v := .agg ((leB 32 x).map bv).toArray) (fun w' hw' => exec_load_row 23 _ rfl gb rfl 23 _ (0, 0) _ (HS.out.later hw').b Try.underlying23 rfl (hI.out _ (leB_length _ _))) ?_
        go_simp
        refine sched_call (f := 8) (args := #[.agg ((leB 32 x).map bv).toArray]) rfl (by rfl) (by go_simp) ?_
        refine (ffrom_any (leB 32 x) W (leB_length _ _)).mono ?_
        rintro e U1 ⟨d1, rfl, he, hb⟩
        refine ⟨_, rfl, hb, ?_⟩
        rw [HB.out] at he
        have HEd1 : Hid (Elm d1 x) := he
        replace HS := hidup (HS.out.later hb)
        clear he hb
        go_simp
        refine sched_call (f := 11) (args := #[.agg d1.toArray]) rfl (by rfl) (by go_simp) ?_
        refine (fbytes_any d1 x U1 HEd1.out).mono ?_
        rintro e U2 ⟨rfl, hb⟩
        refine ⟨_, rfl, hb, ?_⟩
        replace HS := hidup (HS.out.later hb)
        clear hb
        go_simp
        iterate 1 (refine sched_take rfl (by rfl) (v := ?_) ?_ ?_; rotate_left; (intro w' hw'; have q1 := key_same w' x x rfl; clear hw'; go_simp; with_reducible rfl); go_simp)
        iterate 2 (refine sched_take rfl (by rfl) (v := ?_) ?_ ?_; rotate_left; (intro w' hw'; clear hw'; go_simp; with_reducible rfl); go_simp)
        refine sched_take rfl (by rfl) (v := .agg (C.map bv).toArray) (fun w' hw' => exec_load_row 23 _ rfl gc rfl 23 _ (0, 0) _ (HS.out.later hw').c Try.underlying23 rfl (hI.out _ hCl)) ?_
        go_simp
        refine sched_take rfl (by rfl) (v := .agg ((leB 32 x).map bv).toArray) (fun w' hw' => exec_load_row 23 _ rfl gb rfl 23 _ (0, 0) _ (HS.out.later hw').b Try.underlying23 rfl (hI.out _ (leB_length _ _))) ?_
        go_simp
        refine sched_call (f := 8) (args := #[.agg (C.map bv).toArray]) rfl (by rfl) (by go_simp) ?_
        refine (ffrom_any C U2 hCl).mono ?_
        rintro e U3 ⟨d2, rfl, he, hb⟩
        refine ⟨_, rfl, hb, ?_⟩
        rw [HC.out] at he
        have HEd2 : Hid (Elm d2 x) := he
        replace HS := hidup (HS.out.later hb)
        clear he hb
        go_simp
        refine sched_call (f := 11) (args := #[.agg d2.toArray]) rfl (by rfl) (by go_simp) ?_
        refine (fbytes_any d2 x U3 HEd2.out).mono ?_
        rintro e U4 ⟨rfl, hb⟩
        refine ⟨_, rfl, hb, ?_⟩
        replace HS := hidup (HS.out.later hb)
        clear hb
        go_simp
        iterate 1 (refine sched_take rfl (by rfl) (v := ?_) ?_ ?_; rotate_left; (intro w' hw'; have q1 := key_same w' x x rfl; clear hw'; go_simp; with_reducible rfl); go_simp)
        iterate 2 (refine sched_take rfl (by rfl) (v := ?_) ?_ ?_; rotate_left; (intro w' hw'; clear hw'; go_simp; with_reducible rfl); go_simp)
        iterate 4 (refine sched_take rfl (by rfl) (v := ?_) ?_ ?_; rotate_left; (intro w' hw'; obtain ⟨cb, fb⟩ := (HS.out.later hw').b.at_ 31 (by omega); rw [HU31.out] at cb; clear hw'; go_simp; with_reducible rfl); go_simp)
        iterate 3 (refine sched_take rfl (by rfl) (v := ?_) ?_ ?_; rotate_left; (intro w' hw'; clear hw'; go_simp; with_reducible rfl); go_simp)
        have h237 := H237.out rfl
        have h237i : (t0 : Int) < 237 := by omega
        iterate 3 (refine sched_take rfl (by rfl) (v := ?_) ?_ ?_; rotate_left; (intro w' hw'; obtain ⟨cb, fb⟩ := (HS.out.later hw').b.at_ 0 (by omega); rw [HT0.out] at cb; clear hw'; go_simp; with_reducible rfl); go_simp)
        iterate 3 (refine sched_take rfl (by rfl) (v := ?_) ?_ ?_; rotate_left; (intro w' hw'; clear hw'; go_simp; with_reducible rfl); go_simp)
        refine sched_done hKK ?_
        clear hKK
        (try go_wp2)
        go_ret
        exact ⟨rfl, HS.out.bel⟩
      · refine wp_region_sched' (G := Grows) (by kernel_rfl) Grows.refl Grows.trans (by kernel_rfl) [(0, true), (1, true), (2, true), (5, true), (3, false), (4, false), (6, true), (7, true), (8, true), (9, true), (12, true), (10, false), (11, false), (13, true), (14, true), (15, true), (16, true), (17, true), (18, true), (19, true), (20, true), (21, true), (22, true), (23, true), (24, true), (25, true), (26, true), (27, true), (28, true)] rfl (by kernel_rfl) ?_
        intro KK hKK
        rw [HWd.out]
        clear HWd
        iterate 2 (refine sched_take rfl (by rfl) (v := ?_) ?_ ?_; rotate_left; (intro w' hw'; clear hw'; go_simp; with_reducible rfl); go_simp)
        refine sched_take rfl (by rfl) (v := .agg ((leB 32 x).map bv).toArray) (fun w' hw' => exec_load_row 23 _ rfl gb rfl 23 _ (0, 0) _ (HS.out.later hw').b Try.underlying23 rfl (hI.out _ (leB_length _ _))) ?_
        go_simp
        refine sched_take rfl (by rfl) (v := .agg ((leB 32 x).map bv).toArray) (fun w' hw' => exec_load_row 23 _ rfl gb rfl 23 _ (0, 0) _ (HS.out.later hw').b Try.underlying23 rfl (hI.out _ (leB_length _ _))) ?_
        go_simp
        refine sched_call (f := 8) (args := #[.agg ((leB 32 x).map bv).toArray]) rfl (by rfl) (by go_simp) ?_
        refine (ffrom_any (leB 32 x) W (leB_length _ _)).mono ?_
        rintro e U1 ⟨d1, rfl, he, hb⟩
        refine ⟨_, rfl, hb, ?_⟩
        rw [HB.out] at he
        have HEd1 : Hid (Elm d1 x) := he
        replace HS := hidup (HS.out.later hb)
        clear he hb
        go_simp
        refine sched_call (f := 11) (args := #[.agg d1.toArray]) rfl (by rfl) (by go_simp) ?_
        refine (fbytes_any d1 x U1 HEd1.out).mono ?_
        rintro e U2 ⟨rfl, hb⟩
        refine ⟨_, rfl, hb, ?_⟩
        replace HS := hidup (HS.out.later hb)
        clear hb
        go_simp
        iterate 1 (refine sched_take rfl (by rfl) (v := ?_) ?_ ?_; rotate_left; (intro w' hw'; have q1 := key_same w' x x rfl; clear hw'; go_simp; with_reducible rfl); go_simp)
        iterate 2 (refine sched_take rfl (by rfl) (v := ?_) ?_ ?_; rotate_left; (intro w' hw'; clear hw'; go_simp; with_reducible rfl); go_simp)
        refine sched_take rfl (by rfl) (v := .agg (C.map bv).toArray) (fun w' hw' => exec_load_row 23 _ rfl gc rfl 23 _ (0, 0) _ (HS.out.later hw').c Try.underlying23 rfl (hI.out _ hCl)) ?_
        go_simp
        refine sched_take rfl (by rfl) (v := .agg ((leB 32 x).map bv).toArray) (fun w' hw' => exec_load_row 23 _ rfl gb rfl 23 _ (0, 0) _ (HS.out.later hw').b Try.underlying23 rfl (hI.out _ (leB_length _ _))) ?_
        go_simp
        refine sched_call (f := 8) (args := #[.agg (C.map bv).toArray]) rfl (by rfl) (by go_simp) ?_
        refine (ffrom_any C U2 hCl).mono ?_
        rintro e U3 ⟨d2, rfl, he, hb⟩
        refine ⟨_, rfl, hb, ?_⟩
        rw [HC.out] at he
        have HEd2 : Hid (Elm d2 x) := he
        replace HS := hidup (HS.out.later hb)
        clear he hb
        go_simp
        refine sched_call (f := 11) (args := #[.agg d2.toArray]) rfl (by rfl) (by go_simp) ?_
        refine (fbytes_any d2 x U3 HEd2.out).mono ?_
        rintro e U4 ⟨rfl, hb⟩
        refine ⟨_, rfl, hb, ?_⟩
        replace HS := hidup (HS.out.later hb)
        clear hb
        go_simp
        iterate 1 (refine sched_take rfl (by rfl) (v := ?_) ?_ ?_; rotate_left; (intro w' hw'; have q1 := key_same w' x x rfl; clear hw'; go_simp; with_reducible rfl); go_simp)
        iterate 2 (refine sched_take rfl (by rfl) (v := ?_) ?_ ?_; rotate_left; (intro w' hw'; clear hw'; go_simp; with_reducible rfl); go_simp)
        iterate 4 (refine sched_take rfl (by rfl) (v := ?_) ?_ ?_; rotate_left; (intro w' hw'; obtain ⟨cb, fb⟩ := (HS.out.later hw').b.at_ 31 (by omega); rw [HU31.out] at cb; clear hw'; go_simp; with_reducible rfl); go_simp)
        iterate 3 (refine sched_take rfl (by rfl) (v := ?_) ?_ ?_; rotate_left; (intro w' hw'; clear hw'; go_simp; with_reducible rfl); go_simp)
        iterate 3 (refine sched_skip rfl (by rfl) ?_; go_simp)
        iterate 3 (refine sched_take rfl (by rfl) (v := ?_) ?_ ?_; rotate_left; (intro w' hw'; clear hw'; go_simp; with_reducible rfl); go_simp)
        refine sched_done hKK ?_
        clear hKK
        (try go_wp2)
        go_ret
        exact ⟨rfl, HS.out.bel⟩
end Go.Proofs.Ytgggdcliepgahaa.fieldBytes
