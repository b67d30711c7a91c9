/- FieldInverts. For every key, without a condition. -/
import Derived.Test.YtgggdcliepgahaaLawFieldTells
namespace Go.Proofs.Ytgggdcliepgahaa.fieldInverts
open Go.ChangeShapes Go.WideShapes Go.ChangeAt Go.RowKit
set_option linter.unusedVariables false
open fieldTells

/-- Bytes of a number, held against a key of 0s, and against one of a 1 and 0s. -/
theorem held_null (w : World) (n : Nat) (b : Bool) (hn : n < P255) (h : b = decide (n = 0)) : (Op.equalIn 10000 23 (.agg ((leB 32 n).map bv).toArray) (.agg #[.int .u8 0, .int .u8 0, .int .u8 0, .int .u8 0, .int .u8 0, .int .u8 0, .int .u8 0, .int .u8 0, .int .u8 0, .int .u8 0, .int .u8 0, .int .u8 0, .int .u8 0, .int .u8 0, .int .u8 0, .int .u8 0, .int .u8 0, .int .u8 0, .int .u8 0, .int .u8 0, .int .u8 0, .int .u8 0, .int .u8 0, .int .u8 0, .int .u8 0, .int .u8 0, .int .u8 0, .int .u8 0, .int .u8 0, .int .u8 0, .int .u8 0, .int .u8 0])).run Try.prog w = .ok b w := by
  have := arr_eq w 23 32 (leB 32 n) (List.replicate 32 0) (leB_length _ _) rfl Try.underlying23
  have e : decide (leB 32 n = List.replicate 32 0) = b := by
    rw [h]
    by_cases h0 : n = 0
    · rw [h0, leB_zero, decide_eq_true rfl, decide_eq_true rfl]
    · rw [decide_eq_false h0, decide_eq_false]
      intro h1
      have h2 := congrArg leN h1
      rw [leN_leB, Nat.mod_eq_of_lt (Nat.lt_trans hn P255_lt)] at h2
      exact h0 (by rw [h2]; decide)
  rw [e] at this
  exact this
theorem held_one (w : World) (n : Nat) (b : Bool) (hn : n < P255) (h : b = decide (n = 1)) : (Op.equalIn 10000 23 (.agg ((leB 32 n).map bv).toArray) (.agg #[.int .u8 1, .int .u8 0, .int .u8 0, .int .u8 0, .int .u8 0, .int .u8 0, .int .u8 0, .int .u8 0, .int .u8 0, .int .u8 0, .int .u8 0, .int .u8 0, .int .u8 0, .int .u8 0, .int .u8 0, .int .u8 0, .int .u8 0, .int .u8 0, .int .u8 0, .int .u8 0, .int .u8 0, .int .u8 0, .int .u8 0, .int .u8 0, .int .u8 0, .int .u8 0, .int .u8 0, .int .u8 0, .int .u8 0, .int .u8 0, .int .u8 0, .int .u8 0])).run Try.prog w = .ok b w := by
  have := arr_eq w 23 32 (leB 32 n) (1 :: List.replicate 31 0) (leB_length _ _) rfl Try.underlying23
  have e : decide (leB 32 n = 1 :: List.replicate 31 0) = b := by
    rw [h]
    by_cases h0 : n = 1
    · rw [decide_eq_true h0, decide_eq_true]
      rw [h0]; decide
    · rw [decide_eq_false h0, decide_eq_false]
      intro h1
      have h2 := congrArg leN h1
      rw [leN_leB, Nat.mod_eq_of_lt (Nat.lt_trans hn P255_lt)] at h2
      exact h0 (by rw [h2]; decide)
  rw [e] at this
  exact this
def zero32K : Array Value := (List.replicate 32 (Value.int .u8 0)).toArray
/-- The key, the two elements, and the bytes of their product. -/
structure Iv (w : World) (l0 : List UInt8) (g1 g2 g3 : Nat) (c1 c2 : List Value) (m : Nat) (W : World) : Prop where
  k : Arr W w.heap.size 23 l0
  c1 : Cel W g1 c1
  c2 : Cel W g2 c2
  p : Arr W g3 23 (leB 32 m)
  bel : Below w.heap.size w W
theorem Iv.later {w W W' : World} {l0 : List UInt8} {g1 g2 g3 : Nat} {c1 c2 : List Value} {m : Nat} (x : Iv w l0 g1 g2 g3 c1 c2 m W) (hb : Below W.heap.size W W') : Iv w l0 g1 g2 g3 c1 c2 m W' :=
  ⟨x.k.later hb, x.c1.later hb, x.c2.later hb, x.p.later hb, x.bel.trans (hb.mono x.bel.size)⟩

set_option maxHeartbeats 8000000 in
set_option maxRecDepth 100000 in
theorem walk (l0 : List UInt8) (w : World) (w0 : l0.length = 32) :
    Calls Try.prog 3 #[.agg (l0.map bv).toArray] w fun e w' => e = .returned (.bool true) ∧ Below w.heap.size w w' := by
  have hI : Hid (∀ l : List UInt8, l.length = 32 → (Try.prog.info? 23).map (·.size) = some (l.map bv).toArray.size) := fun l hl => info_size (n := 32) (by kernel_rfl) l hl
  go_enter Try.func3, Try.ntmps3
  go_wp2_with fail
  refine (fshown_any _).mono ?_
  rintro e V0 ⟨rfl, hb⟩
  obtain ⟨hk0, hbw⟩ := keys1 w l0
  have HK0 : Hid (Arr V0 w.heap.size 23 l0) := hk0.later hb
  have HW : Hid (Below w.heap.size w V0) := hbw.trans (hb.mono hbw.size)
  clear hb hbw hk0
  go_wp2_with (first | refine wpList_load_met (by rfl) 23 _ rfl w.heap.size rfl 23 _ (0, 0) _ HK0.out Try.underlying23 rfl (hI.out l0 w0) ?_ | fail)
  refine (ffrom_any l0 _ w0).mono ?_
  rintro e V1 ⟨c1, rfl, he, hb⟩
  obtain ⟨x, hn⟩ : ∃ n, leN l0 % 2 ^ 255 % P255 = n := ⟨_, rfl⟩
  rw [hn] at he
  have HEc1 : Hid (Elm c1 x) := he
  have HNx : Hid (leN l0 % 2 ^ 255 % P255 = x) := hn
  have hlenc1 := he.len
  have hst := elm_store V1 he
  have hC := Cel.new V1 c1
  obtain ⟨W1, hW⟩ : ∃ W, V1.alloc (.cells c1.toArray 28) = W := ⟨_, rfl⟩
  rw [hW] at hst hC
  have hbW : Below V0.heap.size V0 W1 := by rw [← hW]; exact hb.alloc hb.size _
  replace HK0 := hidup (HK0.out.later hbW)
  replace HW := hidup (HW.out.trans (hbW.mono HW.out.size))
  have HCc1 : Hid (Cel W1 V1.heap.size c1) := hC
  clear he hb hbW hC hW hn
  go_wp2_with (first | refine wpList_load_met (by rfl) 28 _ rfl V1.heap.size rfl 28 _ (0, 0) _ HCc1.out Try.underlying28 rfl (elm_info HEc1.out) ?_ | fail)
  clear hst
  generalize V1.heap.size = g1 at *
  refine (finv_any c1 x _ HEc1.out).mono ?_
  rintro e V2 ⟨c2, rfl, he, hb⟩
  obtain ⟨i, hn⟩ : ∃ n, finv x = n := ⟨_, rfl⟩
  rw [hn] at he
  have HEc2 : Hid (Elm c2 i) := he
  have HNi : Hid (finv x = i) := hn
  have hlenc2 := he.len
  have hst := elm_store V2 he
  have hC := Cel.new V2 c2
  obtain ⟨W2, hW⟩ : ∃ W, V2.alloc (.cells c2.toArray 28) = W := ⟨_, rfl⟩
  rw [hW] at hst hC
  have hbW : Below W1.heap.size W1 W2 := by rw [← hW]; exact hb.alloc hb.size _
  replace HK0 := hidup (HK0.out.later hbW)
  replace HCc1 := hidup (HCc1.out.later hbW)
  replace HW := hidup (HW.out.trans (hbW.mono HW.out.size))
  have HCc2 : Hid (Cel W2 V2.heap.size c2) := hC
  clear he hb hbW hC hW hn
  go_wp2_with (first | refine wpList_load_met (by rfl) 28 _ rfl g1 rfl 28 _ (0, 0) _ HCc1.out Try.underlying28 rfl (elm_info HEc1.out) ?_ | refine wpList_load_met (by rfl) 28 _ rfl V2.heap.size rfl 28 _ (0, 0) _ HCc2.out Try.underlying28 rfl (elm_info HEc2.out) ?_ | fail)
  clear hst
  generalize V2.heap.size = g2 at *
  have hxl := HEc1.out.lt
  obtain ⟨m, hm⟩ : ∃ m, x * i % P255 = m := ⟨_, rfl⟩
  have hml : m < P255 := by rw [← hm]; exact Nat.mod_lt _ P255_pos
  obtain ⟨z, hz⟩ : ∃ z, decide (x = 0) = z := ⟨_, rfl⟩
  have HZ0 : Hid (z = decide (x = 0)) := hz.symm
  have HZm : Hid (z = decide (m = 0)) := by
    show _ = _
    rw [← hz, ← hm, ← HNi.out]
    by_cases h0 : x = 0
    · rw [h0, Nat.zero_mul, Nat.zero_mod]
    · rw [Nat.mul_comm, finv_mul x hxl h0, decide_eq_false h0]; rfl
  have HZ1 : Hid ((!z) = decide (m = 1)) := by
    show _ = _
    rw [← hz, ← hm, ← HNi.out]
    by_cases h0 : x = 0
    · rw [h0, Nat.zero_mul, Nat.zero_mod]; rfl
    · rw [Nat.mul_comm, finv_mul x hxl h0, decide_eq_false h0]; rfl
  have HM : Hid (x * i % P255 = m) := hm
  clear hm hz
  refine (fmul_any c1 c2 x i W2 HEc1.out HEc2.out).mono ?_
  rintro e V3 ⟨c3, rfl, he, hb⟩
  rw [HM.out] at he
  have HE3 : Hid (Elm c3 m) := he
  replace HK0 := hidup (HK0.out.later hb)
  replace HCc1 := hidup (HCc1.out.later hb)
  replace HCc2 := hidup (HCc2.out.later hb)
  replace HW := hidup (HW.out.trans (hb.mono HW.out.size))
  clear he hb
  go_wp2_with fail
  refine (fbytes_any c3 m V3 HE3.out).mono ?_
  rintro e V4 ⟨rfl, hb⟩
  have hst := run_store_arr V4 23 (leB 32 m) 32 (leB_length _ _) (by kernel_rfl) zero32K (by kernel_rfl)
  have hA := Arr.new V4 23 (leB 32 m)
  have hb2 : Below V3.heap.size V3 (V4.alloc (.cells ((leB 32 m).map bv).toArray 23)) := hb.alloc hb.size _
  obtain ⟨W4, hW4⟩ : ∃ W4, V4.alloc (.cells ((leB 32 m).map bv).toArray 23) = W4 := ⟨_, rfl⟩
  rw [hW4] at hst hA hb2
  simp only [zero32K, List.replicate] at hst
  have HS : Hid (Iv w l0 g1 g2 V4.heap.size c1 c2 m W4) := ⟨HK0.out.later hb2, HCc1.out.later hb2, HCc2.out.later hb2, hA, HW.out.trans (hb2.mono HW.out.size)⟩
  clear hb hb2 hA hW4 HK0 HCc1 HCc2 HW HE3
  go_wp2_with (first | refine wpList_load_met (by rfl) 28 _ rfl g1 rfl 28 _ (0, 0) _ HS.out.c1 Try.underlying28 rfl (elm_info HEc1.out) ?_ | fail)
  clear hst
  generalize V4.heap.size = g3 at *
  refine (fbytes_any c1 x W4 HEc1.out).mono ?_
  rintro e V5 ⟨rfl, hb⟩
  replace HS := hidup (HS.out.later hb)
  clear hb
  have hq := held_null V5 x z hxl HZ0.out
  have hdr : Below V5.heap.size V5 V5.drew := (Below.refl _ _).drew
  replace HS := hidup (HS.out.later hdr)
  clear hdr
  go_wp2_with fail
  clear hq
  obtain ⟨W, hWd⟩ : ∃ W, V5.drew = W := ⟨_, rfl⟩
  have HWd : Hid (V5.drew = W) := hWd
  rw [hWd] at HS
  clear hWd
  refine wp_region_sched' (G := Grows) (by kernel_rfl) Grows.refl Grows.trans (by kernel_rfl) [(0, true), (1, true), (2, true), (5, true), (3, false), (4, false), (6, false), (7, false), (8, false), (9, true), (10, true), (11, true), (12, true), (13, true), (14, true), (15, true), (16, true), (17, true), (18, true), (19, true), (20, true), (21, true), (22, true), (23, true), (24, true), (25, true), (26, true), (27, true)] rfl (by kernel_rfl) ?_
  intro KK hKK
  rw [HWd.out]
  clear HWd
  iterate 2 (refine sched_take rfl (by rfl) (v := ?_) ?_ ?_; rotate_left; (intro w' hw'; clear hw'; go_simp; with_reducible rfl); go_simp)
  refine sched_take rfl (by rfl) (v := .agg c2.toArray) (fun w' hw' => exec_load_row 28 _ rfl g2 rfl 28 _ (0, 0) _ (HS.out.later hw').c2 Try.underlying28 rfl (elm_info HEc2.out)) ?_
  go_simp
  refine sched_take rfl (by rfl) (v := .slice (some ⟨w.heap.size, 0, none⟩) 32 32) (fun w' hw' => by clear hw'; go_simp) ?_
  go_simp
  refine sched_call (f := 11) (args := #[.agg c2.toArray]) rfl (by rfl) (by go_simp) ?_
  refine (fbytes_any c2 i W HEc2.out).mono ?_
  rintro e U1 ⟨rfl, hb⟩
  refine ⟨_, rfl, hb, ?_⟩
  replace HS := hidup (HS.out.later hb)
  clear hb
  go_simp
  refine sched_call (f := 12) (args := #[.agg ((leB 32 i).map bv).toArray]) rfl (by rfl) (by go_simp) ?_
  refine (ftext_any (leB 32 i) U1 (leB_length _ _)).mono ?_
  rintro e U2 ⟨rfl, hb⟩
  refine ⟨_, rfl, hb, ?_⟩
  replace HS := hidup (HS.out.later hb)
  clear hb
  go_simp
  refine sched_call (f := 15) (args := #[.slice (some ⟨w.heap.size, 0, none⟩) 32 32]) rfl (by rfl) (by go_simp) ?_
  refine (refFfrom_any (some ⟨w.heap.size, 0, none⟩) 32 l0 U2 (HS.out.k.byt 32 w0)).mono ?_
  rintro e U3 ⟨ap, np, qp, rfl, hb, hd⟩
  refine ⟨_, rfl, hb, ?_⟩
  rw [HNx.out] at hd
  have HDp : Hid (Dig U3 ap np qp x) := hd
  replace HS := hidup (HS.out.later hb)
  clear hb hd
  go_simp
  refine sched_call (f := 14) (args := #[.slice ap np qp]) rfl (by rfl) (by go_simp) ?_
  refine (refFinv_any ap np qp x U3 HDp.out hxl).mono ?_
  rintro e U4 ⟨ai, ni, qi, rfl, hb, hd⟩
  refine ⟨_, rfl, hb, ?_⟩
  have hfi : x ^ E255 % P255 = i := HNi.out
  rw [hfi] at hd
  have HDi : Hid (Dig U4 ai ni qi i) := hd
  replace HS := hidup (HS.out.later hb)
  clear hb hd hfi
  go_simp
  refine sched_call (f := 13) (args := #[.slice ai ni qi]) rfl (by rfl) (by go_simp) ?_
  refine (refFbytes_any ai ni qi i U4 HDi.out (len33 HDi.out HEc2.out.lt)).mono ?_
  rintro e U5 ⟨gb, rfl, _, hb, hby⟩
  refine ⟨_, rfl, hb, ?_⟩
  have HBy : Hid (Byt U5 (some ⟨gb, 0, none⟩) 32 (leB 32 i)) := hby
  replace HS := hidup (HS.out.later hb)
  clear hb hby
  go_simp
  refine sched_take rfl (by rfl) (v := .string (S (leB 32 i))) (fun w' hw' => by have hcv := conv_bytes w' (some ⟨gb, 0, none⟩) 32 32 (leB 32 i) (HBy.out.later hw'); clear hw'; go_simp) ?_
  go_simp
  iterate 3 (refine sched_take rfl (by rfl) (v := ?_) ?_ ?_; rotate_left; (intro w' hw'; clear hw'; go_simp; with_reducible rfl); go_simp)
  refine sched_take rfl (by rfl) (v := .agg ((leB 32 m).map bv).toArray) (fun w' hw' => exec_load_row 23 _ rfl g3 rfl 23 _ (0, 0) _ (HS.out.later hw').p Try.underlying23 rfl (hI.out _ (leB_length _ _))) ?_
  go_simp
  iterate 1 (refine sched_take rfl (by rfl) (v := ?_) ?_ ?_; rotate_left; (intro w' hw'; clear hw'; go_simp; with_reducible rfl); go_simp)
  iterate 1 (refine sched_take rfl (by rfl) (v := ?_) ?_ ?_; rotate_left; (intro w' hw'; have hq := held_one w' m (!z) hml HZ1.out; clear hw'; go_simp; with_reducible rfl); go_simp)
  iterate 5 (refine sched_take rfl (by rfl) (v := ?_) ?_ ?_; rotate_left; (intro w' hw'; clear hw'; go_simp; with_reducible rfl); go_simp)
  refine sched_take rfl (by rfl) (v := .agg ((leB 32 m).map bv).toArray) (fun w' hw' => exec_load_row 23 _ rfl g3 rfl 23 _ (0, 0) _ (HS.out.later hw').p Try.underlying23 rfl (hI.out _ (leB_length _ _))) ?_
  go_simp
  iterate 1 (refine sched_take rfl (by rfl) (v := ?_) ?_ ?_; rotate_left; (intro w' hw'; clear hw'; go_simp; with_reducible rfl); go_simp)
  iterate 1 (refine sched_take rfl (by rfl) (v := ?_) ?_ ?_; rotate_left; (intro w' hw'; have hq := held_null w' m z hml HZm.out; clear hw'; go_simp; with_reducible rfl); go_simp)
  iterate 4 (refine sched_take rfl (by rfl) (v := ?_) ?_ ?_; rotate_left; (intro w' hw'; clear hw'; go_simp; with_reducible rfl); go_simp)
  refine sched_done hKK ?_
  clear hKK
  (try go_wp2)
  go_ret
  exact ⟨rfl, HS.out.bel⟩
end Go.Proofs.Ytgggdcliepgahaa.fieldInverts
