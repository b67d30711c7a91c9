/- The walk over what must be in any case (field). -/
import Derived.Test.YtgggdcliepgahaaDoorFldI
namespace Go.Proofs.YtgggdcliepgahaaDoor
set_option linter.unusedVariables false
open Go.RowKit

/-- The bytes of P, the first k of them. -/
def pKto (k : Nat) : List UInt8 := 237 :: (List.replicate (k - 1) 255 ++ List.replicate (32 - k) 0)
theorem pKto_length (k : Nat) (h1 : 1 ≤ k) (h2 : k ≤ 31) : (pKto k).length = 32 := by simp [pKto]; omega
theorem pKto_step (k : Nat) (h1 : 1 ≤ k) (h2 : k < 31) : (pKto k).set k 255 = pKto (k + 1) := by
  obtain ⟨j, rfl⟩ : ∃ j, k = j + 1 := ⟨k - 1, by omega⟩
  unfold pKto
  rw [List.set_cons_succ, List.set_append_right _ _ (by simp), show 32 - (j + 1) = (32 - (j + 1 + 1)) + 1 by omega, List.replicate_succ]
  simp only [Nat.add_sub_cancel, List.length_replicate, Nat.sub_self, List.set_cons_zero]
  rw [List.replicate_succ', List.append_assoc]
  rfl
theorem pKto_end : (pKto 31).set 31 127 = pK := by decide
theorem pK_length : pK.length = 32 := by decide

set_option maxHeartbeats 8000000 in
set_option maxRecDepth 100000 in
theorem fshown_any (w : World) : Calls Tryd.prog 9 #[] w fun e w' => e = .returned (.bool true) ∧ Below w.heap.size w w' := by
  have hinf : Hid ((Tryd.prog.info? 23).map (·.size) = some ((pKto 1).map bv).toArray.size) := info_size (n := 32) (by kernel_rfl) (pKto 1) (pKto_length 1 (by omega) (by omega))
  have hall : Hid (((pKto 1).map bv).toArray.all (·.oneCell') = true) := by
    show _ = _
    rw [Array.all_eq_true_iff_forall_mem]
    intro u hu
    simp only [List.mem_toArray] at hu
    exact bv_oneCell _ u hu
  have HA0 : Hid (Arr (w.alloc (.cells ((pKto 1).map bv).toArray 23)) w.heap.size 23 (pKto 1)) := Arr.new w _ _
  have HW0 : Hid (Below w.heap.size w (w.alloc (.cells ((pKto 1).map bv).toArray 23))) := (Below.refl _ _).alloc (Nat.le_refl _) _
  obtain ⟨W0, hW0⟩ : ∃ W0, w.alloc (.cells ((pKto 1).map bv).toArray 23) = W0 := ⟨_, rfl⟩
  rw [hW0] at HA0 HW0
  have HE0' : Hid (w.alloc (.cells ((pKto 1).map bv).toArray 23) = W0) := hW0
  clear hW0
  go_enter Tryd.func9, Tryd.ntmps9
  go_wp2_with (first | (refine wpList_store_row rfl 23 _ _ rfl w.heap.size ((pKto 1).map bv).toArray rfl rfl 23 _ (heap_alloc_new w _) hinf.out rfl hall.out ?_; rw [World.setRow_alloc_new, HE0'.out]))
  clear hinf hall HE0'
  go_loopw [2] (fun i wr => ∃ k : Nat, 1 ≤ k ∧ k ≤ 31 ∧ i = .int .i64 k ∧ Hid (Arr wr w.heap.size 23 (pKto k)) ∧ Hid (Below w.heap.size w wr)) (fun i _ => 31 - (intOf i).toNat)
  case atStart => exact ⟨1, by omega, by omega, rfl, HA0, HW0⟩
  case round =>
    clear HA0 HW0
    obtain ⟨k, hk1, hk, rfl, HA, HB⟩ := hrel
    by_cases hlt : k < 31
    · have i1 : (k : Int) < 31 := by omega
      have i2 : (k : Int) < 32 := by omega
      obtain ⟨cc, fr⟩ := HA.out.at_ k (by rw [pKto_length k hk1 hk]; omega)
      have hA2 := HA.out.set k 255
      rw [pKto_step k hk1 hlt] at hA2
      have HA2 : Hid (Arr (wr.setCell ⟨w.heap.size, k, none⟩ (.int .u8 255)) w.heap.size 23 (pKto (k + 1))) := hA2
      have HB2 : Hid (Below w.heap.size w (wr.setCell ⟨w.heap.size, k, none⟩ (.int .u8 255))) := HB.out.setCell (Nat.le_refl _) _
      clear hA2 HA HB
      go_wp2
      exact ⟨⟨k + 1, by omega, by omega, by go_num, HA2, HB2⟩, by simp [intOf]; omega⟩
    · have ek : k = 31 := by omega
      have hkr : ¬ (k : Int) < 31 := by omega
      have hA1 := HA.out
      rw [ek] at hA1
      obtain ⟨cc, fr⟩ := hA1.at_ 31 (by rw [pKto_length 31 (by omega) (by omega)]; omega)
      have hA2 := hA1.set 31 127
      rw [pKto_end] at hA2
      obtain ⟨P, hP⟩ : ∃ P, pK = P := ⟨_, rfl⟩
      have hPl : P.length = 32 := by rw [← hP]; exact pK_length
      have HPv : Hid (leN P % 2 ^ 255 % P255 = 0) := by rw [← hP]; exact pK_val
      rw [hP] at hA2
      have HK0 : Hid (Arr (wr.setCell ⟨w.heap.size, 31, none⟩ (.int .u8 127)) w.heap.size 23 P) := hA2
      have HW : Hid (Below w.heap.size w (wr.setCell ⟨w.heap.size, 31, none⟩ (.int .u8 127))) := HB.out.setCell (Nat.le_refl _) _
      have hIK0 : Hid ((Tryd.prog.info? 23).map (·.size) = some (P.map bv).toArray.size) := info_size (n := 32) (by kernel_rfl) P hPl
      clear hA1 hA2 HA HB hP
      go_wp2_with fail
      clear cc fr
      refine (fsmall_any 1 _ (by omega)).mono ?_
      rintro e V1 ⟨c1, rfl, he, hb⟩
      obtain ⟨one, hn⟩ : ∃ n, 1 = n := ⟨_, rfl⟩
      rw [hn] at he
      have HE1 : Hid (Elm c1 one) := he
      have HVone : Hid (1 = one) := hn
      have HF1 : Hid (FC one (1 : Int)) := by have h := FC.self he.lt; rw [← hn] at h ⊢; exact h
      have hlen1 := he.len
      have hst := elm_store V1 he
      have hC := Cel.new V1 c1
      obtain ⟨W1, hW⟩ : ∃ W, V1.alloc (.cells c1.toArray 28) = W := ⟨_, rfl⟩
      rw [hW] at hst hC
      have hbW : Below (wr.setCell ⟨w.heap.size, 31, none⟩ (.int .u8 127)).heap.size (wr.setCell ⟨w.heap.size, 31, none⟩ (.int .u8 127)) W1 := by rw [← hW]; exact hb.alloc hb.size _
      replace HK0 := hidup (HK0.out.later hbW)
      replace HW := hidup (HW.out.trans (hbW.mono HW.out.size))
      have HC1 : Hid (Cel W1 V1.heap.size c1) := hC
      clear he hb hbW hC hW hn
      go_wp2_with fail
      clear hst
      generalize V1.heap.size = g1 at HC1 ⊢
      refine (fsmall_any 2 _ (by omega)).mono ?_
      rintro e V2 ⟨c2, rfl, he, hb⟩
      obtain ⟨two, hn⟩ : ∃ n, 2 = n := ⟨_, rfl⟩
      rw [hn] at he
      have HE2 : Hid (Elm c2 two) := he
      have HVtwo : Hid (2 = two) := hn
      have HF2 : Hid (FC two (2 : Int)) := by have h := FC.self he.lt; rw [← hn] at h ⊢; exact h
      have hlen2 := he.len
      have hst := elm_store V2 he
      have hC := Cel.new V2 c2
      obtain ⟨W2, hW⟩ : ∃ W, V2.alloc (.cells c2.toArray 28) = W := ⟨_, rfl⟩
      rw [hW] at hst hC
      have hbW : Below W1.heap.size W1 W2 := by rw [← hW]; exact hb.alloc hb.size _
      replace HK0 := hidup (HK0.out.later hbW)
      replace HC1 := hidup (HC1.out.later hbW)
      replace HW := hidup (HW.out.trans (hbW.mono HW.out.size))
      have HC2 : Hid (Cel W2 V2.heap.size c2) := hC
      clear he hb hbW hC hW hn
      go_wp2
      clear hst
      generalize V2.heap.size = g2 at HC2 ⊢
      obtain ⟨W3, hWd⟩ : ∃ W, W2.drew = W := ⟨_, rfl⟩
      have HWd : Hid (W2.drew = W3) := hWd
      have hdr : Below W2.heap.size W2 W3 := by rw [← hWd]; exact (Below.refl _ _).drew
      replace HK0 := hidup (HK0.out.later hdr)
      replace HC1 := hidup (HC1.out.later hdr)
      replace HC2 := hidup (HC2.out.later hdr)
      replace HW := hidup (HW.out.trans (hdr.mono HW.out.size))
      clear hdr hWd
      refine wp_region_sched' (G := Grows) (by kernel_rfl) Grows.refl Grows.trans (by kernel_rfl) [(0, true), (3, true), (1, false), (2, false), (4, true), (5, true), (6, true), (7, true), (10, true), (8, false), (9, false), (11, false), (12, true), (13, true), (14, true), (15, true), (16, true), (20, true), (17, false), (18, false), (19, false), (21, false), (22, true), (23, true), (24, true), (25, true), (27, true), (26, false), (28, true), (29, true), (30, true), (31, true), (33, true), (32, false), (34, true), (35, true), (36, true)] rfl (by kernel_rfl) ?_
      intro KK4 hKK4
      rw [HWd.out]
      refine sched_take rfl (by rfl) (v := .agg (P.map bv).toArray) (fun w' hw' => exec_load_row 23 _ rfl w.heap.size rfl 23 _ (0, 0) _ (HK0.out.later hw') Tryd.underlying23 rfl hIK0.out) ?_
      go_simp
      iterate 1 (refine sched_take rfl (by rfl) (v := ?_) ?_ ?_; rotate_left; (intro w' hw'; clear hw'; go_simp; with_reducible rfl); go_simp)
      refine sched_call (f := 10) (args := #[.agg (P.map bv).toArray]) rfl (by rfl) (by go_simp) ?_
      refine (ffrom_any P W3 hPl).mono ?_
      rintro e V5 ⟨c5, rfl, he, hb⟩
      refine ⟨_, rfl, hb, ?_⟩
      obtain ⟨n5, hn⟩ : ∃ n, leN P % 2 ^ 255 % P255 = n := ⟨_, rfl⟩
      rw [hn] at he
      have HE5 : Hid (Elm c5 n5) := he
      have HF5 : Hid (FC n5 (n5 : Int)) := FC.self he.lt
      have HN5 : Hid (leN P % 2 ^ 255 % P255 = n5) := hn
      replace HK0 := hidup (HK0.out.later hb)
      replace HC1 := hidup (HC1.out.later hb)
      replace HC2 := hidup (HC2.out.later hb)
      replace HW := hidup (HW.out.trans (hb.mono HW.out.size))
      clear hb he hn
      go_simp
      refine sched_call (f := 13) (args := #[.agg c5.toArray]) rfl (by rfl) (by go_simp) ?_
      refine (fbytes_any c5 n5 V5 HE5.out).mono ?_
      rintro e V6 ⟨rfl, hb⟩
      refine ⟨_, rfl, hb, ?_⟩
      replace HK0 := hidup (HK0.out.later hb)
      replace HC1 := hidup (HC1.out.later hb)
      replace HC2 := hidup (HC2.out.later hb)
      replace HW := hidup (HW.out.trans (hb.mono HW.out.size))
      clear hb
      go_simp
      have hq7 : Hid (n5 = 0) := HN5.out.symm.trans HPv.out
      refine sched_take rfl (by rfl) (v := ?_) ?_ ?_; rotate_left; (intro w' hw'; clear hw'; have q1 := key_null w' n5 hq7.out; go_simp; with_reducible rfl); go_simp
      clear hq7
      iterate 1 (refine sched_take rfl (by rfl) (v := ?_) ?_ ?_; rotate_left; (intro w' hw'; clear hw'; go_simp; with_reducible rfl); go_simp)
      refine sched_take rfl (by rfl) (v := .agg c1.toArray) (fun w' hw' => exec_load_row 28 _ rfl g1 rfl 28 _ (0, 0) _ (HC1.out.later hw') Tryd.underlying28 rfl (elm_info HE1.out)) ?_
      go_simp
      refine sched_take rfl (by rfl) (v := .agg c1.toArray) (fun w' hw' => exec_load_row 28 _ rfl g1 rfl 28 _ (0, 0) _ (HC1.out.later hw') Tryd.underlying28 rfl (elm_info HE1.out)) ?_
      go_simp
      refine sched_take rfl (by rfl) (v := .agg c2.toArray) (fun w' hw' => exec_load_row 28 _ rfl g2 rfl 28 _ (0, 0) _ (HC2.out.later hw') Tryd.underlying28 rfl (elm_info HE2.out)) ?_
      go_simp
      refine sched_call (f := 15) (args := #[.agg c1.toArray, .agg c1.toArray]) rfl (by rfl) (by go_simp) ?_
      refine (fadd_any c1 c1 one one V6 HE1.out HE1.out).mono ?_
      rintro e V8 ⟨c8, rfl, he, hb⟩
      refine ⟨_, rfl, hb, ?_⟩
      obtain ⟨n8, hn⟩ : ∃ n, (one + one) % P255 = n := ⟨_, rfl⟩
      rw [hn] at he
      have HE8 : Hid (Elm c8 n8) := he
      have HF8 : Hid (FC n8 ((1 : Int) + (1 : Int))) := by rw [← hn]; exact HF1.out.add HF1.out
      replace HK0 := hidup (HK0.out.later hb)
      replace HC1 := hidup (HC1.out.later hb)
      replace HC2 := hidup (HC2.out.later hb)
      replace HW := hidup (HW.out.trans (hb.mono HW.out.size))
      clear hb he hn
      go_simp
      refine sched_call (f := 13) (args := #[.agg c8.toArray]) rfl (by rfl) (by go_simp) ?_
      refine (fbytes_any c8 n8 V8 HE8.out).mono ?_
      rintro e V9 ⟨rfl, hb⟩
      refine ⟨_, rfl, hb, ?_⟩
      replace HK0 := hidup (HK0.out.later hb)
      replace HC1 := hidup (HC1.out.later hb)
      replace HC2 := hidup (HC2.out.later hb)
      replace HW := hidup (HW.out.trans (hb.mono HW.out.size))
      clear hb
      go_simp
      refine sched_call (f := 13) (args := #[.agg c2.toArray]) rfl (by rfl) (by go_simp) ?_
      refine (fbytes_any c2 two V9 HE2.out).mono ?_
      rintro e V10 ⟨rfl, hb⟩
      refine ⟨_, rfl, hb, ?_⟩
      replace HK0 := hidup (HK0.out.later hb)
      replace HC1 := hidup (HC1.out.later hb)
      replace HC2 := hidup (HC2.out.later hb)
      replace HW := hidup (HW.out.trans (hb.mono HW.out.size))
      clear hb
      go_simp
      have hq11 : Hid (n8 = two) := FC.eq HF8.out HF2.out (by grind)
      refine sched_take rfl (by rfl) (v := ?_) ?_ ?_; rotate_left; (intro w' hw'; clear hw'; have q1 := key_same w' n8 two hq11.out; go_simp; with_reducible rfl); go_simp
      clear hq11
      iterate 2 (refine sched_take rfl (by rfl) (v := ?_) ?_ ?_; rotate_left; (intro w' hw'; clear hw'; go_simp; with_reducible rfl); go_simp)
      refine sched_take rfl (by rfl) (v := .agg c2.toArray) (fun w' hw' => exec_load_row 28 _ rfl g2 rfl 28 _ (0, 0) _ (HC2.out.later hw') Tryd.underlying28 rfl (elm_info HE2.out)) ?_
      go_simp
      refine sched_take rfl (by rfl) (v := .agg c2.toArray) (fun w' hw' => exec_load_row 28 _ rfl g2 rfl 28 _ (0, 0) _ (HC2.out.later hw') Tryd.underlying28 rfl (elm_info HE2.out)) ?_
      go_simp
      refine sched_take rfl (by rfl) (v := .agg c1.toArray) (fun w' hw' => exec_load_row 28 _ rfl g1 rfl 28 _ (0, 0) _ (HC1.out.later hw') Tryd.underlying28 rfl (elm_info HE1.out)) ?_
      go_simp
      refine sched_call (f := 22) (args := #[.agg c2.toArray]) rfl (by rfl) (by go_simp) ?_
      refine (finv_any c2 two V10 HE2.out).mono ?_
      rintro e V12 ⟨c12, rfl, he, hb⟩
      refine ⟨_, rfl, hb, ?_⟩
      obtain ⟨n12, hn⟩ : ∃ n, finv two = n := ⟨_, rfl⟩
      rw [hn] at he
      have HE12 : Hid (Elm c12 n12) := he
      have HF12 : Hid (FC n12 (n12 : Int)) := FC.self he.lt
      have HI12 : Hid (finv two = n12) := hn
      replace HK0 := hidup (HK0.out.later hb)
      replace HC1 := hidup (HC1.out.later hb)
      replace HC2 := hidup (HC2.out.later hb)
      replace HW := hidup (HW.out.trans (hb.mono HW.out.size))
      clear hb he hn
      go_simp
      refine sched_call (f := 19) (args := #[.agg c2.toArray, .agg c12.toArray]) rfl (by rfl) (by go_simp) ?_
      refine (fmul_any c2 c12 two n12 V12 HE2.out HE12.out).mono ?_
      rintro e V13 ⟨c13, rfl, he, hb⟩
      refine ⟨_, rfl, hb, ?_⟩
      obtain ⟨n13, hn⟩ : ∃ n, (two * n12) % P255 = n := ⟨_, rfl⟩
      rw [hn] at he
      have HE13 : Hid (Elm c13 n13) := he
      have HF13 : Hid (FC n13 ((2 : Int) * (n12 : Int))) := by rw [← hn]; exact HF2.out.mul HF12.out
      replace HK0 := hidup (HK0.out.later hb)
      replace HC1 := hidup (HC1.out.later hb)
      replace HC2 := hidup (HC2.out.later hb)
      replace HW := hidup (HW.out.trans (hb.mono HW.out.size))
      clear hb he hn
      go_simp
      refine sched_call (f := 13) (args := #[.agg c13.toArray]) rfl (by rfl) (by go_simp) ?_
      refine (fbytes_any c13 n13 V13 HE13.out).mono ?_
      rintro e V14 ⟨rfl, hb⟩
      refine ⟨_, rfl, hb, ?_⟩
      replace HK0 := hidup (HK0.out.later hb)
      replace HC1 := hidup (HC1.out.later hb)
      replace HC2 := hidup (HC2.out.later hb)
      replace HW := hidup (HW.out.trans (hb.mono HW.out.size))
      clear hb
      go_simp
      refine sched_call (f := 13) (args := #[.agg c1.toArray]) rfl (by rfl) (by go_simp) ?_
      refine (fbytes_any c1 one V14 HE1.out).mono ?_
      rintro e V15 ⟨rfl, hb⟩
      refine ⟨_, rfl, hb, ?_⟩
      replace HK0 := hidup (HK0.out.later hb)
      replace HC1 := hidup (HC1.out.later hb)
      replace HC2 := hidup (HC2.out.later hb)
      replace HW := hidup (HW.out.trans (hb.mono HW.out.size))
      clear hb
      go_simp
      have hq16 : Hid (n13 = one) := (shown_inv HF2.out.lt (by have h := HVtwo.out; omega) HI12.out (HF13.out.cast (by have h := HVtwo.out; rw [← h]; rfl))).trans HVone.out
      refine sched_take rfl (by rfl) (v := ?_) ?_ ?_; rotate_left; (intro w' hw'; clear hw'; have q1 := key_same w' n13 one hq16.out; go_simp; with_reducible rfl); go_simp
      clear hq16
      iterate 2 (refine sched_take rfl (by rfl) (v := ?_) ?_ ?_; rotate_left; (intro w' hw'; clear hw'; go_simp; with_reducible rfl); go_simp)
      refine sched_take rfl (by rfl) (v := .agg c2.toArray) (fun w' hw' => exec_load_row 28 _ rfl g2 rfl 28 _ (0, 0) _ (HC2.out.later hw') Tryd.underlying28 rfl (elm_info HE2.out)) ?_
      go_simp
      iterate 1 (refine sched_take rfl (by rfl) (v := ?_) ?_ ?_; rotate_left; (intro w' hw'; clear hw'; go_simp; with_reducible rfl); go_simp)
      refine sched_call (f := 13) (args := #[.agg c2.toArray]) rfl (by rfl) (by go_simp) ?_
      refine (fbytes_any c2 two V15 HE2.out).mono ?_
      rintro e V17 ⟨rfl, hb⟩
      refine ⟨_, rfl, hb, ?_⟩
      replace HK0 := hidup (HK0.out.later hb)
      replace HC1 := hidup (HC1.out.later hb)
      replace HC2 := hidup (HC2.out.later hb)
      replace HW := hidup (HW.out.trans (hb.mono HW.out.size))
      clear hb
      go_simp
      have hq18 : Hid (two = 2) := HVtwo.out.symm
      refine sched_take rfl (by rfl) (v := ?_) ?_ ?_; rotate_left; (intro w' hw'; clear hw'; have q1 := key_byte2 w' two hq18.out; go_simp; with_reducible rfl); go_simp
      clear hq18
      iterate 2 (refine sched_take rfl (by rfl) (v := ?_) ?_ ?_; rotate_left; (intro w' hw'; clear hw'; go_simp; with_reducible rfl); go_simp)
      refine sched_take rfl (by rfl) (v := .agg zeroE.toArray) (fun w' hw' => by clear hw'; go_simp; rfl) ?_
      go_simp
      have HE0 : Hid (Elm zeroE 0) := elm_zero
      have HF0 : Hid (FC 0 (0 : Int)) := FC.self P255_pos
      iterate 1 (refine sched_take rfl (by rfl) (v := ?_) ?_ ?_; rotate_left; (intro w' hw'; clear hw'; go_simp; with_reducible rfl); go_simp)
      refine sched_call (f := 13) (args := #[.agg zeroE.toArray]) rfl (by rfl) (by go_simp) ?_
      refine (fbytes_any zeroE 0 V17 HE0.out).mono ?_
      rintro e V19 ⟨rfl, hb⟩
      refine ⟨_, rfl, hb, ?_⟩
      replace HK0 := hidup (HK0.out.later hb)
      replace HC1 := hidup (HC1.out.later hb)
      replace HC2 := hidup (HC2.out.later hb)
      replace HW := hidup (HW.out.trans (hb.mono HW.out.size))
      clear hb
      go_simp
      have hq20 : Hid (0 = 0) := rfl
      refine sched_take rfl (by rfl) (v := ?_) ?_ ?_; rotate_left; (intro w' hw'; clear hw'; have q1 := key_null w' 0 hq20.out; go_simp; with_reducible rfl); go_simp
      clear hq20
      iterate 2 (refine sched_take rfl (by rfl) (v := ?_) ?_ ?_; rotate_left; (intro w' hw'; clear hw'; go_simp; with_reducible rfl); go_simp)
      refine sched_done hKK4 ?_
      clear hKK4 HWd
      go_wp2
      go_ret
      exact ⟨rfl, HW.out⟩
end Go.Proofs.YtgggdcliepgahaaDoor
