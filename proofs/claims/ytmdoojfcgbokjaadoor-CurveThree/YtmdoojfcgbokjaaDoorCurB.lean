/- The walks over the program's Public and Shared (curve). -/
import Derived.Test.YtmdoojfcgbokjaaDoorCurA
import Derived.Test.YtmdoojfcgbokjaaDoorFieldT
namespace Go.Proofs.YtmdoojfcgbokjaaDoor
set_option linter.unusedVariables false
open Go.RowKit

def nineL : List UInt8 := 9 :: List.replicate 31 0
theorem nineL_val : modU nineL = 9 := by decide +kernel
theorem mK_nine (k : List UInt8) : mK k nineL = mX (clampK (leN k)) 9 := by rw [mK, nineL_val]
/-- Bytes of a number, held against a key of 0s. -/
theorem held_zero (w : World) (n : Nat) (b : Bool) (hn : n < P255) (h : b = decide (n = 0)) : (Op.equalIn 10000 23 (.agg ((leB 32 n).map bv).toArray) (.agg #[.int .u8 0, .int .u8 0, .int .u8 0, .int .u8 0, .int .u8 0, .int .u8 0, .int .u8 0, .int .u8 0, .int .u8 0, .int .u8 0, .int .u8 0, .int .u8 0, .int .u8 0, .int .u8 0, .int .u8 0, .int .u8 0, .int .u8 0, .int .u8 0, .int .u8 0, .int .u8 0, .int .u8 0, .int .u8 0, .int .u8 0, .int .u8 0, .int .u8 0, .int .u8 0, .int .u8 0, .int .u8 0, .int .u8 0, .int .u8 0, .int .u8 0, .int .u8 0])).run Tryd.prog w = .ok b w := by
  have := arr_eq w 23 32 (leB 32 n) (List.replicate 32 0) (leB_length _ _) rfl Tryd.underlying23
  have e : decide (leB 32 n = List.replicate 32 0) = b := by
    rw [h]
    by_cases h0 : n = 0
    · rw [h0, leB_zero, decide_eq_true rfl, decide_eq_true rfl]
    · rw [decide_eq_false h0, decide_eq_false]
      intro h1
      have h2 := congrArg leN h1
      rw [leN_leB, Nat.mod_eq_of_lt (Nat.lt_trans hn P255_lt)] at h2
      exact h0 (by rw [h2]; decide)
  rw [e] at this
  exact this
def zero32C : Array Value := (List.replicate 32 (Value.int .u8 0)).toArray

set_option maxHeartbeats 4000000 in
set_option maxRecDepth 100000 in
theorem public_any (k : List UInt8) (w : World) (hk : k.length = 32) (htab : FTab w) :
    Calls Tryd.prog 15 #[.agg (k.map bv).toArray] w fun e w' => e = .returned (.agg ((leB 32 (mX (clampK (leN k)) 9)).map bv).toArray) ∧ Below w.heap.size w w' := by
  have hI : Hid (∀ l : List UInt8, l.length = 32 → (Tryd.prog.info? 23).map (·.size) = some (l.map bv).toArray.size) := fun l hl => info_size (n := 32) (by kernel_rfl) l hl
  have HV0 : Hid (Vw w ((w.alloc (.cells (k.map bv).toArray 23)).alloc (.cells zeroKb.toArray 23)) [(w.heap.size, 23, k.map bv), (w.heap.size + 1, 23, zeroKb)]) := by
    have h := ((Vw.none w).alloc 23 (k.map bv)).alloc 23 zeroKb
    simp only [World.size_alloc] at h
    exact h
  have HTab : Hid (FTab w) := htab
  go_enter Tryd.func15, Tryd.ntmps15
  refine wp_seq (wp_cut (fun a W => a = { tmps := #[.agg (k.map bv).toArray, .pointer (some ⟨w.heap.size, 0, none⟩), .pointer (some ⟨w.heap.size + 1, 0, none⟩), undef, undef, undef], defers := [] } ∧ Hid (Vw w W [(w.heap.size, 23, k.map bv), (w.heap.size + 1, 23, zeroKb)])) ?_ ?_)
  · go_wp2
    first | exact HV0 | exact ⟨rfl, HV0⟩ | exact ⟨rfl, rfl, HV0⟩
  · rintro a W0 ⟨rfl, HV⟩
    clear HV0
    simp only [Exit.then]
    go_wp2_with (first | (refine wpList_load_row rfl 23 _ rfl w.heap.size rfl 23 (k.map bv).toArray (0, 0) _ ?_ Tryd.underlying23 rfl (hI.out k hk) ?_; exact HV.out.cell (w.heap.size, 23, k.map bv) (by simp)) | fail)
    refine (mult_any k nineL W0 hk rfl (HTab.out.later HV.out.bel)).mono ?_
    rintro e V ⟨rfl, hb⟩
    obtain ⟨LB, hLB⟩ : ∃ L, leB 32 (mK k nineL) = L := ⟨_, rfl⟩
    have hLl : LB.length = 32 := by rw [← hLB, leB_length]
    have HRes : Hid (leB 32 (mX (clampK (leN k)) 9) = LB) := by show _ = _; rw [← mK_nine, hLB]
    rw [hLB]
    have hV := HV.out.later hb
    have hR := hV.cell (w.heap.size + 1, 23, zeroKb) (by simp)
    have hst := store_row V (w.heap.size + 1) _ _ (LB.map bv) hR (by simp [hLl, zeroKb]) (bv_oneCell LB)
    have hrow := setRow_heap V (w.heap.size + 1) _ (LB.map bv).toArray _ _ hR
    have HBel : Hid (Below w.heap.size w (V.setRow (w.heap.size + 1) (LB.map bv).toArray)) := below_setRow hV.bel (by omega) _
    obtain ⟨X, hX⟩ : ∃ X, V.setRow (w.heap.size + 1) (LB.map bv).toArray = X := ⟨_, rfl⟩
    rw [hX] at hst hrow HBel
    have HRow : Hid (X.heap[w.heap.size + 1]? = some (.cells (LB.map bv).toArray 23 (0, 0))) := hrow
    clear hR hrow hX hLB hb hV HV
    go_wp2
    (try simp only [Exit.inBlock, Exit.then])
    refine bodyPost_ret (results_cell_row rfl _ _ (w.heap.size + 1) 23 _ (0, 0) _ rfl HRow.out Tryd.underlying23 rfl (hI.out LB hLl)) rfl ?_
    exact ⟨by rw [HRes.out], HBel.out⟩

set_option maxHeartbeats 4000000 in
set_option maxRecDepth 100000 in
theorem shared_any (k u : List UInt8) (w : World) (hk : k.length = 32) (hu : u.length = 32) (htab : FTab w) :
    Calls Tryd.prog 13 #[.agg (k.map bv).toArray, .agg (u.map bv).toArray] w fun e w' => e = .returned (.tuple #[.agg ((leB 32 (mK k u)).map bv).toArray, .int .i64 (if mK k u = 0 then 4 else 0)]) ∧ Below w.heap.size w w' := by
  have hI : Hid (∀ l : List UInt8, l.length = 32 → (Tryd.prog.info? 23).map (·.size) = some (l.map bv).toArray.size) := fun l hl => info_size (n := 32) (by kernel_rfl) l hl
  have HV0 : Hid (Vw w (((w.alloc (.cells (k.map bv).toArray 23)).alloc (.cells (u.map bv).toArray 23)).alloc (.cells zeroKb.toArray 23)) [(w.heap.size, 23, k.map bv), (w.heap.size + 1, 23, u.map bv), (w.heap.size + 1 + 1, 23, zeroKb)]) := by
    have h := (((Vw.none w).alloc 23 (k.map bv)).alloc 23 (u.map bv)).alloc 23 zeroKb
    simp only [World.size_alloc] at h
    exact h
  have HTab : Hid (FTab w) := htab
  have hml := mK_lt k u
  obtain ⟨m, hm⟩ : ∃ m, mK k u = m := ⟨_, rfl⟩
  rw [hm] at hml ⊢
  obtain ⟨er, her⟩ : ∃ er : Int, (if m = 0 then (4 : Int) else 0) = er := ⟨_, rfl⟩
  rw [her]
  have HM : Hid (mK k u = m) := hm
  have HEr : Hid ((if m = 0 then (4 : Int) else 0) = er) := her
  clear hm her htab
  go_enter Tryd.func13, Tryd.ntmps13
  refine wp_seq (wp_cut (fun a W => a = { tmps := #[.agg (k.map bv).toArray, .agg (u.map bv).toArray, .pointer (some ⟨w.heap.size, 0, none⟩), .pointer (some ⟨w.heap.size + 1, 0, none⟩), .pointer (some ⟨w.heap.size + 1 + 1, 0, none⟩), .int .i64 0, undef, undef, undef, undef, undef, undef, undef, undef, undef], defers := [] } ∧ Hid (Vw w W [(w.heap.size, 23, k.map bv), (w.heap.size + 1, 23, u.map bv), (w.heap.size + 1 + 1, 23, zeroKb)])) ?_ ?_)
  · go_wp2
    first | exact HV0 | exact ⟨rfl, HV0⟩ | exact ⟨rfl, rfl, HV0⟩
  · rintro a W0 ⟨rfl, HV⟩
    clear HV0
    simp only [Exit.then]
    go_wp2_with (first | (refine wpList_load_row rfl 23 _ rfl w.heap.size rfl 23 (k.map bv).toArray (0, 0) _ ?_ Tryd.underlying23 rfl (hI.out k hk) ?_; exact HV.out.cell (w.heap.size, 23, k.map bv) (by simp)) | (refine wpList_load_row rfl 23 _ rfl (w.heap.size + 1) rfl 23 (u.map bv).toArray (0, 0) _ ?_ Tryd.underlying23 rfl (hI.out u hu) ?_; exact HV.out.cell (w.heap.size + 1, 23, u.map bv) (by simp)) | fail)
    refine (mult_any k u W0 hk hu (HTab.out.later HV.out.bel)).mono ?_
    rintro e V ⟨rfl, hb⟩
    rw [HM.out]
    have hlen := leB_length 32 m
    have hst := run_store_arr V 23 (leB 32 m) 32 (leB_length _ _) (by kernel_rfl) zero32C (by kernel_rfl)
    simp only [zero32C, List.replicate] at hst
    have hV := (HV.out.later hb).alloc 23 ((leB 32 m).map bv)
    obtain ⟨X, hX⟩ : ∃ X, V.alloc (.cells ((leB 32 m).map bv).toArray 23) = X := ⟨_, rfl⟩
    rw [hX] at hst hV
    have HX : Hid (Vw w X [(w.heap.size, 23, k.map bv), (w.heap.size + 1, 23, u.map bv), (w.heap.size + 1 + 1, 23, zeroKb), (V.heap.size, 23, (leB 32 m).map bv)]) := hV
    have hR := hV.cell (w.heap.size + 1 + 1, 23, zeroKb) (by simp)
    have hst2 := store_row X (w.heap.size + 1 + 1) _ _ ((leB 32 m).map bv) hR (by simp [hlen, zeroKb]) (bv_oneCell _)
    have hrow := setRow_heap X (w.heap.size + 1 + 1) _ ((leB 32 m).map bv).toArray _ _ hR
    have HBel : Hid (Below w.heap.size w (X.setRow (w.heap.size + 1 + 1) ((leB 32 m).map bv).toArray)) := below_setRow hV.bel (by omega) _
    obtain ⟨Y, hY⟩ : ∃ Y, X.setRow (w.heap.size + 1 + 1) ((leB 32 m).map bv).toArray = Y := ⟨_, rfl⟩
    rw [hY] at hst2 hrow HBel
    have HRow : Hid (Y.heap[w.heap.size + 1 + 1]? = some (.cells ((leB 32 m).map bv).toArray 23 (0, 0))) := hrow
    clear hR hrow hX hY hb hV HV
    by_cases h0 : m = 0
    · have hz := held_zero X m true hml (decide_eq_true h0).symm
      have HRz : Hid (X.heap[w.heap.size + 1 + 1]? = some (.cells zeroKb.toArray 23 (0, 0))) := HX.out.cell (w.heap.size + 1 + 1, 23, zeroKb) (by simp)
      have hIz : Hid ((Tryd.prog.info? 23).map (·.size) = some zeroKb.toArray.size) := hI.out (List.replicate 32 0) rfl
      have hall : Hid (zeroKb.toArray.all (·.oneCell') = true) := by show _ = _; kernel_rfl
      have HRow2 : Hid ((X.setRow (w.heap.size + 1 + 1) zeroKb.toArray).heap[w.heap.size + 1 + 1]? = some (.cells zeroKb.toArray 23 (0, 0))) := setRow_heap X _ _ _ _ _ HRz.out
      have HBel2 : Hid (Below w.heap.size w (X.setRow (w.heap.size + 1 + 1) zeroKb.toArray)) := below_setRow HX.out.bel (by omega) _
      have HZb : Hid (Value.agg zeroKb.toArray = .agg ((leB 32 m).map bv).toArray) := by show _ = _; rw [h0, leB_zero]; rfl
      have HH : Hid (m = 0) := h0
      clear h0 hst2 HRow HBel
      go_wp2_with (first | (refine wpList_store_row rfl 23 _ _ rfl (w.heap.size + 1 + 1) zeroKb.toArray rfl rfl 23 _ HRz.out hIz.out rfl hall.out ?_) | (refine wpList_load_row rfl 23 _ rfl V.heap.size rfl 23 ((leB 32 m).map bv).toArray (0, 0) _ ?_ Tryd.underlying23 rfl (hI.out _ (leB_length _ _)) ?_; exact HX.out.cell (V.heap.size, 23, (leB 32 m).map bv) (by simp)) | fail)
      (try simp only [Exit.inBlock, Exit.then])
      refine bodyPost_ret (results_cell_slot rfl _ _ (w.heap.size + 1 + 1) 23 _ (.int .i64 4) _ rfl rfl HRow2.out Tryd.underlying23 rfl hIz.out) rfl ?_
      exact ⟨by rw [← HEr.out, if_pos HH.out, HZb.out], HBel2.out⟩
    · have hz := held_zero X m false hml (decide_eq_false h0).symm
      have HH : Hid (¬ m = 0) := h0
      clear h0
      go_wp2_with (first | (refine wpList_load_row rfl 23 _ rfl V.heap.size rfl 23 ((leB 32 m).map bv).toArray (0, 0) _ ?_ Tryd.underlying23 rfl (hI.out _ (leB_length _ _)) ?_; exact HX.out.cell (V.heap.size, 23, (leB 32 m).map bv) (by simp)) | fail)
      (try simp only [Exit.inBlock, Exit.then])
      refine bodyPost_ret (results_cell_slot rfl _ _ (w.heap.size + 1 + 1) 23 _ (.int .i64 0) _ rfl rfl HRow.out Tryd.underlying23 rfl (hI.out _ (leB_length _ _))) rfl ?_
      exact ⟨by rw [← HEr.out, if_neg HH.out], HBel.out⟩
end Go.Proofs.YtmdoojfcgbokjaaDoor
