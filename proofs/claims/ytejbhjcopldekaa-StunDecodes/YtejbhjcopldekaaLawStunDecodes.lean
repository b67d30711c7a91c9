/- StunDecodes: bytes are the message that the document says, or none. For every row of bytes, without a condition. -/
import Derived.Test.YtejbhjcopldekaaStuX
import Derived.Test.YtejbhjcopldekaaStuW
import Derived.Test.YtejbhjcopldekaaRefSd
namespace Go.Proofs.Ytejbhjcopldekaa.stunDecodes
open Go.ChangeShapes Go.WideShapes Go.ChangeAt Go.RowKit
set_option linter.unusedVariables false
set_option maxRecDepth 100000

theorem in_nil {w : World} {a : Option Addr} {len cap : Nat} {zs : List Int} (h : IsRow .u8 w a len cap zs) : a = none → cap = 0 := by
  intro e
  rcases h with ⟨_, _, h0, _⟩ | ⟨x, h0, _⟩
  · exact h0
  · rw [e] at h0; cases h0
/-- What the program's Decode answers, both ways at once. -/
theorem both {w w' : World} {b : List UInt8} {e : Ending} (h : SDecEnd w (decS b) e w') : ∃ (m : SM) (ua : Option Addr) (uc : Nat) (k : Int), e = .returned (.tuple #[.agg (sMsg m ua uc), .int .i64 k]) ∧ Below w.heap.size w w' ∧ NumsAt w' ua m.unk.length m.unk ∧ m.id.length = 12 ∧ m.unk.length ≤ 1000000 ∧
    ((k = 2 ∧ decS b = none ∧ m = sZero 0 (List.replicate 12 0)) ∨ (k = 0 ∧ decS b = some m)) := by
  cases hd : decS b with
  | none =>
    rw [hd] at h
    obtain ⟨rfl, hb⟩ := h
    exact ⟨_, none, 0, 2, rfl, hb, ⟨rfl, fun i hi => by simp [sZero] at hi⟩, rfl, by simp [sZero], .inl ⟨rfl, rfl, rfl⟩⟩
  | some m =>
    rw [hd] at h
    obtain ⟨ua, uc, rfl, hb, hN, _⟩ := h
    obtain ⟨hr, _, hid, _⟩ := decS_spec b m hd
    exact ⟨m, ua, uc, 0, rfl, hb, hN, hid, by have := hr.unk; omega, .inr ⟨rfl, rfl⟩⟩
set_option maxHeartbeats 4000000 in
theorem walk (a : Option Addr) (len cap : Nat) (zs : List Int) (w : World) (hI : IsRow .u8 w a len cap zs) :
    Calls Try.prog 4 #[.slice a len cap] w fun e w' => e = .returned (.bool true) ∧ Below w.heap.size w w' := by
  have hnil := in_nil hI
  obtain ⟨b, n, hnE0, hn1, hn2, hnc, hncm, hB⟩ := cut_row hI 600
  have hnE : (if (600 : Int) < (len : Int) then (600 : Int) else (len : Int)) = (n : Int) := hnE0
  have HB := uhid hB
  have HNil := uhid hnil
  clear hnE0 hI hB hnil
  go_enter Try.func4, Try.ntmps4
  go_wp2_with fail
  refine (stuShown_any w).mono ?_
  rintro e w1 ⟨rfl, hb1⟩
  have HB1 := uhid hb1
  have hcv := conv_bytes w1 a n cap b (HB.out.later hb1)
  clear hb1
  go_wp2_with fail
  refine (sdecode_any a n cap b w1 (HB.out.later HB1.out) (by omega) hncm HNil.out (by omega)).mono ?_
  intro e w2 hE
  obtain ⟨m, ua, uc, k, rfl, hb2, hN2, hid, hul, hway⟩ := both hE
  clear hE
  have HWAY := uhid hway
  obtain ⟨L5, hL5⟩ := msgL m ua uc
  have hrow5 := heap_alloc_new w2 (.cells #[.int .i64 0, .int .u8 0, .int .u8 0, .int .u8 0, .int .u8 0, .int .u8 0, .int .u8 0, .int .u8 0, .int .u8 0, .int .u8 0, .int .u8 0, .int .u8 0, .int .u8 0, .int .u32 0, .int .i64 0, .string ⟨#[]⟩, .int .i64 0, .string ⟨#[]⟩, .slice none 0 0] 29)
  have hrow6 := setRow_heap (w2.alloc (.cells #[.int .i64 0, .int .u8 0, .int .u8 0, .int .u8 0, .int .u8 0, .int .u8 0, .int .u8 0, .int .u8 0, .int .u8 0, .int .u8 0, .int .u8 0, .int .u8 0, .int .u8 0, .int .u32 0, .int .i64 0, .string ⟨#[]⟩, .int .i64 0, .string ⟨#[]⟩, .slice none 0 0] 29)) w2.heap.size _ L5.toArray _ _ hrow5
  have hb6 : Below w2.heap.size w2 ((w2.alloc (.cells #[.int .i64 0, .int .u8 0, .int .u8 0, .int .u8 0, .int .u8 0, .int .u8 0, .int .u8 0, .int .u8 0, .int .u8 0, .int .u8 0, .int .u8 0, .int .u8 0, .int .u8 0, .int .u32 0, .int .i64 0, .string ⟨#[]⟩, .int .i64 0, .string ⟨#[]⟩, .slice none 0 0] 29)).setRow w2.heap.size L5.toArray) := srow_below ((Below.refl _ _).alloc (Nat.le_refl _) _) _ (Nat.le_refl _) _
  obtain ⟨w3, hw3⟩ : ∃ w3, (w2.alloc (.cells #[.int .i64 0, .int .u8 0, .int .u8 0, .int .u8 0, .int .u8 0, .int .u8 0, .int .u8 0, .int .u8 0, .int .u8 0, .int .u8 0, .int .u8 0, .int .u8 0, .int .u8 0, .int .u32 0, .int .i64 0, .string ⟨#[]⟩, .int .i64 0, .string ⟨#[]⟩, .slice none 0 0] 29)).setRow w2.heap.size L5.toArray = w3 := ⟨_, rfl⟩
  rw [hw3] at hrow6 hb6
  obtain ⟨g, hg⟩ : ∃ g, w2.heap.size = g := ⟨_, rfl⟩
  have hb12 := HB1.out.trans (hb2.mono HB1.out.size)
  have HB3 := uhid (hb12.trans (hb6.mono hb12.size))
  have HN3 := uhid (hN2.later hb6)
  rw [hg] at hrow5 hrow6 hw3
  have HROW5 := uhid hrow5
  have HROW6 := uhid hrow6
  have HW3 := uhid hw3
  have HL5 := uhid hL5
  clear hrow5 hrow6 hw3 hb2 hb6 hb12 hN2 hL5 hcv hway
  rw [HL5.out.eq]
  go_wp2_with (refine wpList_store_row rfl 29 (.tmp 5) (.tmp 20) rfl g L5.toArray rfl rfl 29 _ HROW5.out HL5.out.inf HL5.out.sz HL5.out.one ?_; rw [HW3.out])
  refine (refDecode_all a n cap b w3 hncm (by omega) (HB.out.later HB3.out) (by omega)).mono ?_
  rintro e w4 ⟨m', ok, ia, ic, ub, uc2, rfl, hb4, hid4, hU4, hway4⟩
  have hmm : m' = m ∧ ((ok = false ∧ k = 2 ∧ m = sZero 0 (List.replicate 12 0)) ∨ (ok = true ∧ k = 0)) := by
    rcases HWAY.out with ⟨k2, d, z⟩ | ⟨k0, d⟩
    · rcases hway4 with ⟨o, _, z4⟩ | ⟨_, d4⟩
      · exact ⟨by rw [z4, z], .inl ⟨o, k2, z⟩⟩
      · rw [d] at d4; cases d4
    · rcases hway4 with ⟨_, d4, _⟩ | ⟨o, d4⟩
      · rw [d] at d4; cases d4
      · rw [d] at d4; cases d4; exact ⟨rfl, .inr ⟨o, k0⟩⟩
  obtain ⟨rfl, hk⟩ := hmm
  clear hway4 HWAY
  have hrow5 := heap_alloc_new w4 (.cells #[.int .i64 0, .slice none 0 0, .int .u32 0, .int .i64 0, .string ⟨#[]⟩, .int .i64 0, .string ⟨#[]⟩, .slice none 0 0] 37)
  have hrow6 := setRow_heap (w4.alloc (.cells #[.int .i64 0, .slice none 0 0, .int .u32 0, .int .i64 0, .string ⟨#[]⟩, .int .i64 0, .string ⟨#[]⟩, .slice none 0 0] 37)) w4.heap.size _ (dMsg m' ia ic ub uc2) _ _ hrow5
  have hb6 : Below w4.heap.size w4 ((w4.alloc (.cells #[.int .i64 0, .slice none 0 0, .int .u32 0, .int .i64 0, .string ⟨#[]⟩, .int .i64 0, .string ⟨#[]⟩, .slice none 0 0] 37)).setRow w4.heap.size (dMsg m' ia ic ub uc2)) := srow_below ((Below.refl _ _).alloc (Nat.le_refl _) _) _ (Nat.le_refl _) _
  obtain ⟨w5, hw5⟩ : ∃ w5, (w4.alloc (.cells #[.int .i64 0, .slice none 0 0, .int .u32 0, .int .i64 0, .string ⟨#[]⟩, .int .i64 0, .string ⟨#[]⟩, .slice none 0 0] 37)).setRow w4.heap.size (dMsg m' ia ic ub uc2) = w5 := ⟨_, rfl⟩
  rw [hw5] at hrow6 hb6
  obtain ⟨r, hr⟩ : ∃ r, w4.heap.size = r := ⟨_, rfl⟩
  have hgl : g < w3.heap.size := (Array.getElem?_eq_some_iff.1 HROW6.out).1
  have hb35 : Below w3.heap.size w3 w5 := hb4.trans (hb6.mono hb4.size)
  have HB5 := uhid (HB3.out.trans (hb35.mono HB3.out.size))
  have HG5 := uhid ((hb35.block g hgl).trans HROW6.out)
  have HN5 := uhid (HN3.out.later hb35)
  have HI5 := uhid (hid4.later hb6)
  have HU5 := uhid (hU4.later hb6)
  rw [hr] at hrow5 hrow6 hw5
  have HR5 := uhid hrow5
  have HR6 := uhid hrow6
  have HW5 := uhid hw5
  clear hrow5 hrow6 hw5 hb4 hb6 hb35 hid4 hU4 HROW5 HROW6 HW3 HB3 HN3 hgl
  rcases hk with ⟨rfl, rfl, hz⟩ | ⟨rfl, rfl⟩
  · have HZ := uhid hz
    clear hz
    go_wp2_with (refine wpList_store_row rfl 37 (.tmp 7) (.tmp 25) rfl r (dMsg m' ia ic ub uc2) rfl rfl 37 _ HR5.out (dMsg_inf _ _ _ _ _) rfl (dMsg_one _ _ _ _ _) ?_; rw [HW5.out])
    obtain ⟨V, hV⟩ : ∃ V, w5.drew = V := ⟨_, rfl⟩
    have hdr : Below w5.heap.size w5 V := by rw [← hV]; exact (Below.refl _ _).drew
    have HBV := uhid (HB5.out.trans (hdr.mono HB5.out.size))
    have HGV := uhid ((hdr.block g (Array.getElem?_eq_some_iff.1 HG5.out).1).trans HG5.out)
    have HNV := uhid (HN5.out.later hdr)
    have HBv := uhid (HB.out.later HBV.out)
    have hglV : g < V.heap.size := (Array.getElem?_eq_some_iff.1 HGV.out).1
    refine wp_region_sched' (G := Grows) (by kernel_rfl) Grows.refl Grows.trans (by kernel_rfl) [(0, true), (1, true), (2, true), (3, true), (4, true), (5, true), (6, true), (7, false), (8, true), (9, false), (10, true), (11, true), (12, true), (13, true), (14, true), (15, true), (16, true), (17, true)] rfl (by kernel_rfl) ?_
    intro KK hKK
    rw [hV]
    clear hV hdr HB5 HG5 HN5 HI5 HU5 HR5 HR6 HW5
    iterate 6 (refine sched_take rfl (by rfl) (v := ?_) ?_ ?_; rotate_left; (intro w' hw'; clear hw'; go_simp; with_reducible rfl); go_simp)
    refine sched_take rfl (by rfl) (v := .agg L5.toArray) (fun w' hw' => exec_load_row 29 _ rfl g rfl 29 _ (0, 0) _ ((hw'.block g hglV).trans HGV.out) Try.underlying29 rfl HL5.out.inf) ?_
    go_simp
    have hmk := make_zero12 V 12 (by omega)
    obtain ⟨V2, hV2⟩ : ∃ V2, V.alloc (.cells ((List.replicate 12 (0 : UInt8)).map bv).toArray 5) = V2 := ⟨_, rfl⟩
    have hbV2 : Below V.heap.size V V2 := by rw [← hV2]; exact (Below.refl _ _).alloc (Nat.le_refl _) _
    have HZB := uhid (byt_lit V2 (List.replicate 12 0) V.heap.size _ _ _ (by rw [← hV2]; exact heap_alloc_new V _) rfl)
    obtain ⟨v, hv⟩ : ∃ v, V.heap.size = v := ⟨_, rfl⟩
    rw [hV2, hv] at hmk
    rw [hv] at HZB
    have hmk2 : (Instr.makeSlice 32 (.int .i64 12) (.int .i64 12)).run Try.prog V = .ok (.slice (some ⟨v, 0, none⟩) 12 12) V2 := hmk
    have HB2 := uhid (HBV.out.trans (hbV2.mono HBV.out.size))
    have HN2 := uhid (HNV.out.later hbV2)
    have HbV2 := uhid hbV2
    clear hmk hV2 hbV2 HBV HNV HGV hglV hv
    refine sched_val (v := .slice (some ⟨v, 0, none⟩) 12 12) (w' := V2) rfl (by rfl) (by go_simp; try rfl) HbV2.out ?_
    clear hmk2
    go_simp
    iterate 1 (refine sched_take rfl (by rfl) (v := ?_) ?_ ?_; rotate_left; (intro w' hw'; clear hw'; go_simp; with_reducible rfl); go_simp)
    refine sched_call (f := 18) (args := #[.agg L5.toArray, .agg (dMsg m' (some ⟨v, 0, none⟩) 12 none 0)]) rfl (by rfl) (by rw [HZ.out]; go_simp; try rfl) ?_
    rw [← HL5.out.eq]
    refine (samem_yes m' ua uc (some ⟨v, 0, none⟩) 12 none 0 V2 hid HN2.out (by rw [HZ.out]; exact ⟨rfl, fun i hi => by simp [sZero] at hi⟩) (by rw [HZ.out]; exact HZB.out) hul).mono ?_
    rintro e w9 ⟨rfl, hb9⟩
    refine ⟨_, rfl, hb9, ?_⟩
    have HB9 := uhid (HB2.out.trans (hb9.mono HB2.out.size))
    have HBv := uhid (HB.out.later HB9.out)
    clear hb9 HB2 HN2 HZB HbV2
    go_simp
    iterate 8 (refine sched_take rfl (by rfl) (v := ?_) ?_ ?_; rotate_left; (intro w' hw'; have q1 := conv_bytes w' a n cap b (HBv.out.on hw'); clear hw'; go_simp; with_reducible rfl); go_simp)
    refine sched_done hKK ?_
    clear hKK
    go_wp2_with fail
    go_ret
    exact ⟨rfl, HB9.out⟩
  · have hgl5 : g < w5.heap.size := (Array.getElem?_eq_some_iff.1 HG5.out).1
    go_wp2_with (first
      | (refine wpList_store_row rfl 37 (.tmp 7) (.tmp 25) rfl r (dMsg m' ia ic ub uc2) rfl rfl 37 _ HR5.out (dMsg_inf _ _ _ _ _) rfl (dMsg_one _ _ _ _ _) ?_; rw [HW5.out])
      | refine mload_if rfl 29 _ rfl g rfl 29 _ (0, 0) _ HG5.out Try.underlying29 rfl HL5.out.inf ?_
      | refine mload_if rfl 37 _ rfl r rfl 37 _ (0, 0) _ HR6.out Try.underlying37 rfl (dMsg_inf _ _ _ _ _) ?_)
    rw [← HL5.out.eq]
    refine (samem_yes m' ua uc ia ic ub uc2 w5 hid HN5.out HU5.out (by have := HI5.out; rwa [hid] at this) hul).mono ?_
    rintro e w9 ⟨rfl, hb9⟩
    have HB9 := uhid (HB5.out.trans (hb9.mono HB5.out.size))
    have hcv := conv_bytes w9 a n cap b (HB.out.later HB9.out)
    clear hb9
    go_wp2_with fail
    go_ret
    exact ⟨rfl, HB9.out⟩

/-! ### The row round the walk -/
set_option maxRecDepth 100000 in
theorem lifted (os : Os) (started : os.Started) (H : Type) (enc : TypeId × Value → H) :
    ReturnsInHanded {} Try.checked os 4 .any (Rows.stunDecodesSpec.pre6 enc Try.prog Try.f4 Rows.stunDecodesRow.domain false) (Rows.stunDecodesSpec.post enc Try.prog Try.f4 false true false false) := by
  refine returnsInHanded_of_change (C := Try.checked) own started (by kernel_rfl) Try.func4
    (ChangeSpec.witness6 (enc := enc) (C := Try.checked) false ⟨#[], #[.slice none 0 0], []⟩ 8 (by kernel_rfl) (by kernel_rfl) (by kernel_rfl) (by kernel_rfl)) ?_
  intro W base args ds gs before hval0 hW hcnd _
  have hval : ∀ (j : Nat) t v, Try.f4.params[j]? = some t → args[j]? = some v → Value.okWide Try.prog W .any base t v := hval0
  have hW' := hW
  obtain ⟨p, q, hA0, hV, rfl, hfz, hnd⟩ := hW
  have hA : DataW.TrodAll enc Try.prog W 0 (fun _ => true) true Try.f4.params.toList args.toList ds p := hA0
  rw [Try.params4] at hA hval
  obtain ⟨v0, vs0, d0, ds0, p0, q0, hargs, rfl, rfl, h0, r0⟩ := trodAll_cons hA
  obtain ⟨rfl, rfl, rfl⟩ := trodAll_nil r0
  obtain rfl : args = #[v0] := by cases args; simp_all
  obtain ⟨rfl, rfl⟩ := trodVars_none hV
  obtain ⟨a0, len0, cap0, rfl⟩ := okWide_slice Try.underlying32 (hval 0 32 v0 rfl rfl)
  have k0 := h0
  have lt0 : ∀ x ∈ p0, x.block < W.heap.size := by obtain ⟨m, hm⟩ := k0; exact DataW.trod_lt m _ _ _ hm
  obtain ⟨z0, w0⟩ := isRow_of Try.underlying32 Try.underlying5 (by kernel_rfl) h0
  clear hA0 hval0
  refine (walk a0 len0 cap0 z0 W w0).mono fun e W' ⟨he, bel⟩ => ?_
  subst he
  exact ⟨_, rfl, _, _, _, [], _, [], hW', trodAll_mk1 (shut_bool Try.underlying4 _), (trodAll_cons_mk (Below.trod laidOut (by kernel_rfl) (of_decide_eq_true (by kernel_rfl)) k0 bel lt0) trodAll_mk0), rfl, bel.frame _, fun h => by cases h⟩

theorem over : Rows.stunDecodesRow.holds Try.pinned (OpenSpec.ofChange Rows.stunDecodesSpec) :=
  OpenClaim.holds_of_wide 4 Try.f4 rfl rfl rfl rfl rfl rfl rfl ⟨rfl, rfl, rfl, rfl, rfl⟩ rfl rfl rfl rfl rfl (by kernel_rfl) Try.func4 (by kernel_rfl)
    (of_decide_eq_true (by kernel_rfl)) (by unfold Func.isWrapper; first | (rw [if_pos (by decide +kernel)]; kernel_rfl) | (rw [if_neg (by decide +kernel)]; exact ⟨rfl, rfl⟩))
    (fun os started H enc _ => lifted os started H enc)
end Go.Proofs.Ytejbhjcopldekaa.stunDecodes
namespace Go.Proofs.Ytejbhjcopldekaa
theorem stunDecodes_holds : Rows.StunDecodesSaid := stunDecodes.over
end Go.Proofs.Ytejbhjcopldekaa

