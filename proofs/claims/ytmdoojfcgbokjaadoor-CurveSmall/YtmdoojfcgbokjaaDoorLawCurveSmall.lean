/- CurveSmall. For every key, without a condition. -/
import Derived.Test.YtmdoojfcgbokjaaDoorCurShown
import Derived.Test.YtmdoojfcgbokjaaDoorCurV
namespace Go.Proofs.YtmdoojfcgbokjaaDoor.curveSmall
open Go.ChangeShapes Go.WideShapes Go.ChangeAt Go.RowKit
set_option linter.unusedVariables false

set_option maxHeartbeats 8000000 in
set_option maxRecDepth 100000 in
theorem walk (l0 : List UInt8) (a1 : Int) (w : World) (w0 : l0.length = 32) (w1 : (Lit.int .i64 a1).wf = true) (htab : FTab w) :
    Calls Tryd.prog 8 #[.agg (l0.map bv).toArray, .int .i64 a1] w fun e w' => e = .returned (.bool true) ∧ Below w.heap.size w w' := by
  have HTab : Hid (FTab w) := htab
  have hI : Hid (∀ l : List UInt8, l.length = 32 → (Tryd.prog.info? 23).map (·.size) = some (l.map bv).toArray.size) := fun l hl => info_size (n := 32) (by kernel_rfl) l hl
  have HV0 : Hid (Vw w (w.alloc (.cells (l0.map bv).toArray 23)) [(w.heap.size, 23, l0.map bv)]) := by
    have h := ((Vw.none w).alloc 23 (l0.map bv))
    (try simp only [World.size_alloc] at h)
    exact h
  clear htab
  go_enter Tryd.func8, Tryd.ntmps8
  go_wp2_with fail
  refine (cshown_any _ (HTab.out.later HV0.out.bel)).mono ?_
  rintro e V0 ⟨rfl, hb⟩
  have HV : Hid (Vw w V0 [(w.heap.size, 23, l0.map bv)]) := HV0.out.later hb
  clear hb HV0
  obtain ⟨q, hq0, hqn⟩ := cut16 a1 4
  have hq : (bits .and .i64 a1 65535).tmod 5 = (q : Int) := hq0
  have HQ : Hid (q ≤ 4) := hqn
  clear hq0 hqn w1
  have hVa := HV.out.alloc 23 (zeroL.map bv)
  rw [← uTo_first] at hVa
  have HVa : Hid (Vw w (V0.alloc (.cells ((uTo 1).map bv).toArray 23)) [(w.heap.size, 23, l0.map bv), (V0.heap.size, 23, (uTo 1).map bv)]) := hVa
  clear hVa HV
  go_wp2
  refine from_world (P := Code.wp Tryd.prog _ _ _) (R := fun W => Hid (Vw w W [(w.heap.size, 23, l0.map bv), (V0.heap.size, 23, (uTo 1).map bv)])) _ HVa ?_
  intro W0 HVb
  clear HVa
  generalize V0.heap.size = gu at *
  go_loopw [7] (fun i wr => ∃ k : Nat, 1 ≤ k ∧ k ≤ 31 ∧ i = .int .i64 k ∧ Hid (Vw w wr [(w.heap.size, 23, l0.map bv), (gu, 23, (uTo k).map bv)])) (fun i _ => 31 - (intOf i).toNat)
  case atStart => exact ⟨1, by omega, by omega, rfl, HVb⟩
  case round =>
    clear HVb
    obtain ⟨k, hk1, hk, rfl, HV⟩ := hrel
    have hA : Arr wr gu 23 (uTo k) := HV.out.cell (gu, 23, (uTo k).map bv) (by simp)
    by_cases hlt : k < 31
    · have i1 : (k : Int) < 31 := by omega
      have i2 : (k : Int) < 32 := by omega
      obtain ⟨cc, fr⟩ := hA.at_ k (by rw [uTo_length k hk1 hk]; omega)
      have hV2 := HV.out.setCell 1 gu 23 ((uTo k).map bv) k (.int .u8 255) rfl
      have HV2 : Hid (Vw w (wr.setCell ⟨gu, k, none⟩ (.int .u8 255)) [(w.heap.size, 23, l0.map bv), (gu, 23, (uTo (k + 1)).map bv)]) := by rw [← uTo_step k hk1 hlt]; exact hV2
      clear hV2 HV hA
      go_wp2
      exact ⟨⟨k + 1, by omega, by omega, by go_num, HV2⟩, by simp [intOf]; omega⟩
    · have ek : k = 31 := by omega
      have hkr : ¬ (k : Int) < 31 := by omega
      rw [ek] at hA HV
      obtain ⟨cc, fr⟩ := hA.at_ 31 (by rw [uTo_length 31 (by omega) (by omega)]; omega)
      have hV7 := HV.out.setCell 1 gu 23 ((uTo 31).map bv) 31 (.int .u8 127) rfl
      obtain ⟨X7, hX7⟩ : ∃ X, wr.setCell ⟨gu, 31, none⟩ (.int .u8 127) = X := ⟨_, rfl⟩
      rw [hX7] at hV7
      have HV7 : Hid (Vw w X7 [(w.heap.size, 23, l0.map bv), (gu, 23, (bigL 0).map bv)]) := by rw [← uTo_end]; exact hV7
      have HX7 : Hid (wr.setCell ⟨gu, 31, none⟩ (.int .u8 127) = X7) := hX7
      have hB : Arr X7 gu 23 (bigL 0) := HV7.out.cell (gu, 23, (bigL 0).map bv) (by simp)
      obtain ⟨c0, f0⟩ := hB.at_ 0 (by decide)
      rw [← hX7] at c0 f0
      have hIz : Hid (∀ l : List UInt8, l.length = 32 → (l.map bv).toArray.all (·.oneCell') = true) := fun l hl => by
        show _ = _
        rw [Array.all_eq_true_iff_forall_mem]
        intro u hu
        simp only [List.mem_toArray] at hu
        exact bv_oneCell l u hu
      clear hV7 hX7 HV hA hB
      have hqs : q = 0 ∨ q = 1 ∨ q = 2 ∨ q = 3 ∨ q = 4 := by have := HQ.out; omega
      clear HQ
      rcases hqs with rfl | rfl | rfl | rfl | rfl
      · have HV : Hid (Vw w (X7.setRow gu (zeroL.map bv).toArray) [(w.heap.size, 23, l0.map bv), (gu, 23, zeroL.map bv)]) := HV7.out.put 1 gu 23 ((bigL 0).map bv) (zeroL.map bv) rfl
        go_wp2_with (first | (rw [HX7.out]; refine wpList_store_row rfl 23 _ _ rfl gu (zeroL.map bv).toArray rfl rfl 23 _ (HV7.out.cell (gu, 23, (bigL 0).map bv) (by simp)) (hI.out _ rfl) rfl (hIz.out _ rfl) ?_) | (refine wpList_load_met (by rfl) 23 _ rfl (w.heap.size) rfl 23 (l0.map bv).toArray (0, 0) _ ?_ Tryd.underlying23 rfl (hI.out _ w0) ?_; exact HV.out.cell (w.heap.size, 23, l0.map bv) (by simp)) | (refine wpList_load_met (by rfl) 23 _ rfl (gu) rfl 23 (zeroL.map bv).toArray (0, 0) _ ?_ Tryd.underlying23 rfl (hI.out _ rfl) ?_; exact HV.out.cell (gu, 23, zeroL.map bv) (by simp)) | fail)
        refine (shared_any l0 zeroL (X7.setRow gu (zeroL.map bv).toArray) w0 rfl (HTab.out.later HV.out.bel)).mono ?_
        rintro e V101 ⟨rfl, hb⟩
        obtain ⟨n, hn⟩ : ∃ n, mK l0 zeroL = n := ⟨_, rfl⟩
        have HNn : Hid (mK l0 zeroL = n) := hn
        have hnl : n < P255 := by rw [← hn]; exact mK_lt _ _
        rw [hn]
        have Hn0 : Hid (n = 0) := by show _ = _; rw [← hn]; exact mK_zero l0
        rw [if_pos Hn0.out]
        have hlenn := leB_length 32 n
        have hst := run_store_arr V101 23 (leB 32 n) 32 (leB_length _ _) (by kernel_rfl) zero32C (by kernel_rfl)
        simp only [zero32C, List.replicate] at hst
        have hV := (HV.out.later hb).alloc 23 ((leB 32 n).map bv)
        obtain ⟨X101, hX⟩ : ∃ X, V101.alloc (.cells ((leB 32 n).map bv).toArray 23) = X := ⟨_, rfl⟩
        rw [hX] at hst hV
        replace HV : Hid (Vw w X101 [(w.heap.size, 23, l0.map bv), (gu, 23, zeroL.map bv), (V101.heap.size, 23, (leB 32 n).map bv)]) := hV
        clear hb hV hX hn
        have q1 := held_zero X101 n true hnl (decide_eq_true Hn0.out).symm
        clear cc fr c0 f0
        go_wp2_with (first | (refine wpList_load_met (by rfl) 23 _ rfl (w.heap.size) rfl 23 (l0.map bv).toArray (0, 0) _ ?_ Tryd.underlying23 rfl (hI.out _ w0) ?_; exact HV.out.cell (w.heap.size, 23, l0.map bv) (by simp)) | (refine wpList_load_met (by rfl) 23 _ rfl (gu) rfl 23 (zeroL.map bv).toArray (0, 0) _ ?_ Tryd.underlying23 rfl (hI.out _ rfl) ?_; exact HV.out.cell (gu, 23, zeroL.map bv) (by simp)) | (refine wpList_load_met (by rfl) 23 _ rfl (V101.heap.size) rfl 23 ((leB 32 n).map bv).toArray (0, 0) _ ?_ Tryd.underlying23 rfl (hI.out _ (leB_length _ _)) ?_; exact HV.out.cell (V101.heap.size, 23, (leB 32 n).map bv) (by simp)) | fail)
        go_ret
        exact ⟨rfl, HV.out.bel⟩
      · have HV : Hid (Vw w (X7.setRow gu (oneL.map bv).toArray) [(w.heap.size, 23, l0.map bv), (gu, 23, oneL.map bv)]) := HV7.out.put 1 gu 23 ((bigL 0).map bv) (oneL.map bv) rfl
        go_wp2_with (first | (rw [HX7.out]; refine wpList_store_row rfl 23 _ _ rfl gu (oneL.map bv).toArray rfl rfl 23 _ (HV7.out.cell (gu, 23, (bigL 0).map bv) (by simp)) (hI.out _ rfl) rfl (hIz.out _ rfl) ?_) | (refine wpList_load_met (by rfl) 23 _ rfl (w.heap.size) rfl 23 (l0.map bv).toArray (0, 0) _ ?_ Tryd.underlying23 rfl (hI.out _ w0) ?_; exact HV.out.cell (w.heap.size, 23, l0.map bv) (by simp)) | (refine wpList_load_met (by rfl) 23 _ rfl (gu) rfl 23 (oneL.map bv).toArray (0, 0) _ ?_ Tryd.underlying23 rfl (hI.out _ rfl) ?_; exact HV.out.cell (gu, 23, oneL.map bv) (by simp)) | fail)
        refine (shared_any l0 oneL (X7.setRow gu (oneL.map bv).toArray) w0 rfl (HTab.out.later HV.out.bel)).mono ?_
        rintro e V201 ⟨rfl, hb⟩
        obtain ⟨n, hn⟩ : ∃ n, mK l0 oneL = n := ⟨_, rfl⟩
        have HNn : Hid (mK l0 oneL = n) := hn
        have hnl : n < P255 := by rw [← hn]; exact mK_lt _ _
        rw [hn]
        have Hn0 : Hid (n = 0) := by show _ = _; rw [← hn]; exact mK_one l0
        rw [if_pos Hn0.out]
        have hlenn := leB_length 32 n
        have hst := run_store_arr V201 23 (leB 32 n) 32 (leB_length _ _) (by kernel_rfl) zero32C (by kernel_rfl)
        simp only [zero32C, List.replicate] at hst
        have hV := (HV.out.later hb).alloc 23 ((leB 32 n).map bv)
        obtain ⟨X201, hX⟩ : ∃ X, V201.alloc (.cells ((leB 32 n).map bv).toArray 23) = X := ⟨_, rfl⟩
        rw [hX] at hst hV
        replace HV : Hid (Vw w X201 [(w.heap.size, 23, l0.map bv), (gu, 23, oneL.map bv), (V201.heap.size, 23, (leB 32 n).map bv)]) := hV
        clear hb hV hX hn
        have q1 := held_zero X201 n true hnl (decide_eq_true Hn0.out).symm
        clear cc fr c0 f0
        go_wp2_with (first | (refine wpList_load_met (by rfl) 23 _ rfl (w.heap.size) rfl 23 (l0.map bv).toArray (0, 0) _ ?_ Tryd.underlying23 rfl (hI.out _ w0) ?_; exact HV.out.cell (w.heap.size, 23, l0.map bv) (by simp)) | (refine wpList_load_met (by rfl) 23 _ rfl (gu) rfl 23 (oneL.map bv).toArray (0, 0) _ ?_ Tryd.underlying23 rfl (hI.out _ rfl) ?_; exact HV.out.cell (gu, 23, oneL.map bv) (by simp)) | (refine wpList_load_met (by rfl) 23 _ rfl (V201.heap.size) rfl 23 ((leB 32 n).map bv).toArray (0, 0) _ ?_ Tryd.underlying23 rfl (hI.out _ (leB_length _ _)) ?_; exact HV.out.cell (V201.heap.size, 23, (leB 32 n).map bv) (by simp)) | fail)
        go_ret
        exact ⟨rfl, HV.out.bel⟩
      · have HV : Hid (Vw w ((wr.setCell ⟨gu, 31, none⟩ (.int .u8 127)).setCell ⟨gu, 0, none⟩ (.int .u8 236)) [(w.heap.size, 23, l0.map bv), (gu, 23, (bigL 236).map bv)]) := by
          rw [HX7.out, ← big_set]
          exact HV7.out.setCell 1 gu 23 ((bigL 0).map bv) 0 (.int .u8 236) rfl
        go_wp2_with (first | (refine wpList_load_met (by rfl) 23 _ rfl (w.heap.size) rfl 23 (l0.map bv).toArray (0, 0) _ ?_ Tryd.underlying23 rfl (hI.out _ w0) ?_; exact HV.out.cell (w.heap.size, 23, l0.map bv) (by simp)) | (refine wpList_load_met (by rfl) 23 _ rfl (gu) rfl 23 ((bigL 236).map bv).toArray (0, 0) _ ?_ Tryd.underlying23 rfl (hI.out _ rfl) ?_; exact HV.out.cell (gu, 23, (bigL 236).map bv) (by simp)) | fail)
        refine (shared_any l0 (bigL 236) ((wr.setCell ⟨gu, 31, none⟩ (.int .u8 127)).setCell ⟨gu, 0, none⟩ (.int .u8 236)) w0 rfl (HTab.out.later HV.out.bel)).mono ?_
        rintro e V301 ⟨rfl, hb⟩
        obtain ⟨n, hn⟩ : ∃ n, mK l0 (bigL 236) = n := ⟨_, rfl⟩
        have HNn : Hid (mK l0 (bigL 236) = n) := hn
        have hnl : n < P255 := by rw [← hn]; exact mK_lt _ _
        rw [hn]
        have Hn0 : Hid (n = 0) := by show _ = _; rw [← hn]; exact big_236 l0
        rw [if_pos Hn0.out]
        have hlenn := leB_length 32 n
        have hst := run_store_arr V301 23 (leB 32 n) 32 (leB_length _ _) (by kernel_rfl) zero32C (by kernel_rfl)
        simp only [zero32C, List.replicate] at hst
        have hV := (HV.out.later hb).alloc 23 ((leB 32 n).map bv)
        obtain ⟨X301, hX⟩ : ∃ X, V301.alloc (.cells ((leB 32 n).map bv).toArray 23) = X := ⟨_, rfl⟩
        rw [hX] at hst hV
        replace HV : Hid (Vw w X301 [(w.heap.size, 23, l0.map bv), (gu, 23, (bigL 236).map bv), (V301.heap.size, 23, (leB 32 n).map bv)]) := hV
        clear hb hV hX hn
        have q1 := held_zero X301 n true hnl (decide_eq_true Hn0.out).symm
        clear cc fr c0 f0
        go_wp2_with (first | (refine wpList_load_met (by rfl) 23 _ rfl (w.heap.size) rfl 23 (l0.map bv).toArray (0, 0) _ ?_ Tryd.underlying23 rfl (hI.out _ w0) ?_; exact HV.out.cell (w.heap.size, 23, l0.map bv) (by simp)) | (refine wpList_load_met (by rfl) 23 _ rfl (gu) rfl 23 ((bigL 236).map bv).toArray (0, 0) _ ?_ Tryd.underlying23 rfl (hI.out _ rfl) ?_; exact HV.out.cell (gu, 23, (bigL 236).map bv) (by simp)) | (refine wpList_load_met (by rfl) 23 _ rfl (V301.heap.size) rfl 23 ((leB 32 n).map bv).toArray (0, 0) _ ?_ Tryd.underlying23 rfl (hI.out _ (leB_length _ _)) ?_; exact HV.out.cell (V301.heap.size, 23, (leB 32 n).map bv) (by simp)) | fail)
        go_ret
        exact ⟨rfl, HV.out.bel⟩
      · have HV : Hid (Vw w ((wr.setCell ⟨gu, 31, none⟩ (.int .u8 127)).setCell ⟨gu, 0, none⟩ (.int .u8 237)) [(w.heap.size, 23, l0.map bv), (gu, 23, (bigL 237).map bv)]) := by
          rw [HX7.out, ← big_set]
          exact HV7.out.setCell 1 gu 23 ((bigL 0).map bv) 0 (.int .u8 237) rfl
        go_wp2_with (first | (refine wpList_load_met (by rfl) 23 _ rfl (w.heap.size) rfl 23 (l0.map bv).toArray (0, 0) _ ?_ Tryd.underlying23 rfl (hI.out _ w0) ?_; exact HV.out.cell (w.heap.size, 23, l0.map bv) (by simp)) | (refine wpList_load_met (by rfl) 23 _ rfl (gu) rfl 23 ((bigL 237).map bv).toArray (0, 0) _ ?_ Tryd.underlying23 rfl (hI.out _ rfl) ?_; exact HV.out.cell (gu, 23, (bigL 237).map bv) (by simp)) | fail)
        refine (shared_any l0 (bigL 237) ((wr.setCell ⟨gu, 31, none⟩ (.int .u8 127)).setCell ⟨gu, 0, none⟩ (.int .u8 237)) w0 rfl (HTab.out.later HV.out.bel)).mono ?_
        rintro e V401 ⟨rfl, hb⟩
        obtain ⟨n, hn⟩ : ∃ n, mK l0 (bigL 237) = n := ⟨_, rfl⟩
        have HNn : Hid (mK l0 (bigL 237) = n) := hn
        have hnl : n < P255 := by rw [← hn]; exact mK_lt _ _
        rw [hn]
        have Hn0 : Hid (n = 0) := by show _ = _; rw [← hn]; exact big_237 l0
        rw [if_pos Hn0.out]
        have hlenn := leB_length 32 n
        have hst := run_store_arr V401 23 (leB 32 n) 32 (leB_length _ _) (by kernel_rfl) zero32C (by kernel_rfl)
        simp only [zero32C, List.replicate] at hst
        have hV := (HV.out.later hb).alloc 23 ((leB 32 n).map bv)
        obtain ⟨X401, hX⟩ : ∃ X, V401.alloc (.cells ((leB 32 n).map bv).toArray 23) = X := ⟨_, rfl⟩
        rw [hX] at hst hV
        replace HV : Hid (Vw w X401 [(w.heap.size, 23, l0.map bv), (gu, 23, (bigL 237).map bv), (V401.heap.size, 23, (leB 32 n).map bv)]) := hV
        clear hb hV hX hn
        have q1 := held_zero X401 n true hnl (decide_eq_true Hn0.out).symm
        clear cc fr c0 f0
        go_wp2_with (first | (refine wpList_load_met (by rfl) 23 _ rfl (w.heap.size) rfl 23 (l0.map bv).toArray (0, 0) _ ?_ Tryd.underlying23 rfl (hI.out _ w0) ?_; exact HV.out.cell (w.heap.size, 23, l0.map bv) (by simp)) | (refine wpList_load_met (by rfl) 23 _ rfl (gu) rfl 23 ((bigL 237).map bv).toArray (0, 0) _ ?_ Tryd.underlying23 rfl (hI.out _ rfl) ?_; exact HV.out.cell (gu, 23, (bigL 237).map bv) (by simp)) | (refine wpList_load_met (by rfl) 23 _ rfl (V401.heap.size) rfl 23 ((leB 32 n).map bv).toArray (0, 0) _ ?_ Tryd.underlying23 rfl (hI.out _ (leB_length _ _)) ?_; exact HV.out.cell (V401.heap.size, 23, (leB 32 n).map bv) (by simp)) | fail)
        go_ret
        exact ⟨rfl, HV.out.bel⟩
      · have HV : Hid (Vw w ((wr.setCell ⟨gu, 31, none⟩ (.int .u8 127)).setCell ⟨gu, 0, none⟩ (.int .u8 238)) [(w.heap.size, 23, l0.map bv), (gu, 23, (bigL 238).map bv)]) := by
          rw [HX7.out, ← big_set]
          exact HV7.out.setCell 1 gu 23 ((bigL 0).map bv) 0 (.int .u8 238) rfl
        go_wp2_with (first | (refine wpList_load_met (by rfl) 23 _ rfl (w.heap.size) rfl 23 (l0.map bv).toArray (0, 0) _ ?_ Tryd.underlying23 rfl (hI.out _ w0) ?_; exact HV.out.cell (w.heap.size, 23, l0.map bv) (by simp)) | (refine wpList_load_met (by rfl) 23 _ rfl (gu) rfl 23 ((bigL 238).map bv).toArray (0, 0) _ ?_ Tryd.underlying23 rfl (hI.out _ rfl) ?_; exact HV.out.cell (gu, 23, (bigL 238).map bv) (by simp)) | fail)
        refine (shared_any l0 (bigL 238) ((wr.setCell ⟨gu, 31, none⟩ (.int .u8 127)).setCell ⟨gu, 0, none⟩ (.int .u8 238)) w0 rfl (HTab.out.later HV.out.bel)).mono ?_
        rintro e V501 ⟨rfl, hb⟩
        obtain ⟨n, hn⟩ : ∃ n, mK l0 (bigL 238) = n := ⟨_, rfl⟩
        have HNn : Hid (mK l0 (bigL 238) = n) := hn
        have hnl : n < P255 := by rw [← hn]; exact mK_lt _ _
        rw [hn]
        have Hn0 : Hid (n = 0) := by show _ = _; rw [← hn]; exact big_238 l0
        rw [if_pos Hn0.out]
        have hlenn := leB_length 32 n
        have hst := run_store_arr V501 23 (leB 32 n) 32 (leB_length _ _) (by kernel_rfl) zero32C (by kernel_rfl)
        simp only [zero32C, List.replicate] at hst
        have hV := (HV.out.later hb).alloc 23 ((leB 32 n).map bv)
        obtain ⟨X501, hX⟩ : ∃ X, V501.alloc (.cells ((leB 32 n).map bv).toArray 23) = X := ⟨_, rfl⟩
        rw [hX] at hst hV
        replace HV : Hid (Vw w X501 [(w.heap.size, 23, l0.map bv), (gu, 23, (bigL 238).map bv), (V501.heap.size, 23, (leB 32 n).map bv)]) := hV
        clear hb hV hX hn
        have q1 := held_zero X501 n true hnl (decide_eq_true Hn0.out).symm
        clear cc fr c0 f0
        go_wp2_with (first | (refine wpList_load_met (by rfl) 23 _ rfl (w.heap.size) rfl 23 (l0.map bv).toArray (0, 0) _ ?_ Tryd.underlying23 rfl (hI.out _ w0) ?_; exact HV.out.cell (w.heap.size, 23, l0.map bv) (by simp)) | (refine wpList_load_met (by rfl) 23 _ rfl (gu) rfl 23 ((bigL 238).map bv).toArray (0, 0) _ ?_ Tryd.underlying23 rfl (hI.out _ rfl) ?_; exact HV.out.cell (gu, 23, (bigL 238).map bv) (by simp)) | (refine wpList_load_met (by rfl) 23 _ rfl (V501.heap.size) rfl 23 ((leB 32 n).map bv).toArray (0, 0) _ ?_ Tryd.underlying23 rfl (hI.out _ (leB_length _ _)) ?_; exact HV.out.cell (V501.heap.size, 23, (leB 32 n).map bv) (by simp)) | fail)
        go_ret
        exact ⟨rfl, HV.out.bel⟩
end Go.Proofs.YtmdoojfcgbokjaaDoor.curveSmall
