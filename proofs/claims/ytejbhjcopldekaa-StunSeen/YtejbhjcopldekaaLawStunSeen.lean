/- StunSeen: who asks is told where it is seen, whatever that is. For every ID and address, without a condition. -/
import Derived.Test.YtejbhjcopldekaaStuT
namespace Go.Proofs.Ytejbhjcopldekaa.stunSeen
open Go.ChangeShapes Go.WideShapes Go.ChangeAt Go.RowKit
set_option linter.unusedVariables false
set_option maxRecDepth 100000

theorem seen_right (l : List UInt8) (ho : Nat) (po : Int) : rightS ⟨2, l, ho, po, [], 0, [], []⟩ = decide (0 ≤ po ∧ po ≤ 65535) := by
  rw [Bool.eq_iff_iff, rightS_iff, decide_eq_true_eq]
  constructor
  · intro h; exact ⟨h.p0, h.p1⟩
  · rintro ⟨h0, h1⟩
    exact ⟨.inr (.inl rfl), fun h => absurd rfl h, h0, h1, fun _ => ⟨rfl, rfl⟩, fun h => absurd (show (2 : Int) = 3 from h) (by decide), Nat.zero_le _, Nat.zero_le _, Nat.zero_le _, fun h => absurd (show (2 : Int) = 3 from h) (by decide), fun n hn => by cases hn⟩
theorem seen_len (l : List UInt8) (ho : Nat) (po : Int) (hl : l.length = 12) : (encS ⟨2, l, ho, po, [], 0, [], []⟩).length = 40 := by
  unfold encS
  rw [sFin_length, out_length _ hl, attrs_ans _ rfl]
  simp [sAttr_length, putB_length, sNums, softB, sBody]

set_option maxHeartbeats 4000000 in
theorem walk (l0 : List UInt8) (ho : Nat) (po : Int) (w : World) (w0 : l0.length = 12) (wh : ho < 4294967296) (wp : (Lit.int .i64 po).wf = true) :
    Calls Try.prog 7 #[.agg (l0.map bv).toArray, .agg #[.int .u32 (ho : Int), .int .i64 po]] w fun e w' => e = .returned (.bool true) ∧ Below w.heap.size w w' := by
  obtain ⟨m, hm⟩ : ∃ m : SM, m = ⟨2, l0, ho, po, [], 0, [], []⟩ := ⟨_, rfl⟩
  have mid : m.id.length = 12 := by rw [hm]; exact w0
  have mho : m.host < 4294967296 := by rw [hm]; exact wh
  have mri : rightS m = decide (0 ≤ po ∧ po ≤ 65535) := by rw [hm]; exact seen_right l0 ho po
  have mle : (encS m).length = 40 := by rw [hm]; exact seen_len l0 ho po w0
  have mok : ∀ V : World, MOk V m none 0 := fun V => by rw [hm]; exact mok_lit V _ (show (Lit.int .i64 2).wf = true by decide) rfl rfl rfl
  obtain ⟨v0, v1, v2, v3, v4, v5, v6, v7, v8, v9, v10, v11, hlet⟩ := id_letters l0
  have hmap := map_idL l0 w0
  rw [hlet] at hmap
  have hrowm : sMsg m none 0 = #[.int .i64 2, v0, v1, v2, v3, v4, v5, v6, v7, v8, v9, v10, v11, .int .u32 (ho : Int), .int .i64 po, .string ⟨#[]⟩, .int .i64 0, .string ⟨#[]⟩, .slice none 0 0] := by
    have h := hlet
    simp only [idL, List.cons.injEq, and_true] at h
    obtain ⟨rfl, rfl, rfl, rfl, rfl, rfl, rfl, rfl, rfl, rfl, rfl, rfl⟩ := h
    rw [hm]
    rfl
  have HM := uhid hm
  have HMAP := uhid hmap
  have hone := newL_one 2 [v0, v1, v2, v3, v4, v5, v6, v7, v8, v9, v10, v11] ([.int .i64 2, v0, v1, v2, v3, v4, v5, v6, v7, v8, v9, v10, v11, .int .u32 0, .int .i64 0, .string ⟨#[]⟩, .int .i64 0, .string ⟨#[]⟩, .slice none 0 0]) (by have := idL_one l0; rw [hlet] at this; exact this) rfl
  obtain ⟨LM, hLM⟩ := msgL m none 0
  have h1 := heap_alloc_new w (.cells (l0.map bv).toArray 23)
  have hs1 : (w.alloc (.cells (l0.map bv).toArray 23)).heap.size = w.heap.size + 1 := by rw [World.size_alloc]
  have hb1 : Below w.heap.size w (w.alloc (.cells (l0.map bv).toArray 23)) := (Below.refl _ _).alloc (Nat.le_refl _) _
  have h2 := heap_alloc_new (w.alloc (.cells (l0.map bv).toArray 23)) (.cells #[.int .u32 (ho : Int), .int .i64 po] 26)
  have h1b := (Below.heap_alloc (w.alloc (.cells (l0.map bv).toArray 23)) (.cells #[.int .u32 (ho : Int), .int .i64 po] 26) w.heap.size (by omega)).trans h1
  rw [hs1] at h2
  have HB1 := uhid (hb1.alloc hb1.size (.cells #[.int .u32 (ho : Int), .int .i64 po] 26))
  have H1 := uhid h1b
  have H2 := uhid h2
  have HLE := uhid hlet
  have HRM := uhid hrowm
  have HL := uhid hLM
  clear hmap hrowm hm h1 hb1 h2 h1b hlet hLM hone
  go_enter Try.func7, Try.ntmps7
  go_wp2_with fail
  obtain ⟨W, hW⟩ : ∃ W, (w.alloc (.cells (l0.map bv).toArray 23)).alloc (.cells #[.int .u32 (ho : Int), .int .i64 po] 26) = W := ⟨_, rfl⟩
  rw [hW] at HB1 H1 H2
  rw [hW]
  clear hW
  have hWl : w.heap.size + 1 < W.heap.size := (Array.getElem?_eq_some_iff.1 H2.out).1
  refine (stuShown_any W).mono ?_
  rintro e w1 ⟨rfl, hb1⟩
  have r1 := (hb1.block _ (by omega)).trans H1.out
  have r2 := (hb1.block _ hWl).trans H2.out
  have HBW1 := uhid (HB1.out.trans (hb1.mono HB1.out.size))
  have hw1l : w.heap.size + 1 < w1.heap.size := Nat.lt_of_lt_of_le hWl hb1.size
  rw [HMAP.out] at r1
  have R1 := uhid r1
  have R2 := uhid r2
  have hrow2 := heap_alloc_new w1 (.cells #[.int .i64 0, .int .u8 0, .int .u8 0, .int .u8 0, .int .u8 0, .int .u8 0, .int .u8 0, .int .u8 0, .int .u8 0, .int .u8 0, .int .u8 0, .int .u8 0, .int .u8 0, .int .u32 0, .int .i64 0, .string ⟨#[]⟩, .int .i64 0, .string ⟨#[]⟩, .slice none 0 0] 29)
  have hrow3 := setRow_heap (w1.alloc (.cells #[.int .i64 0, .int .u8 0, .int .u8 0, .int .u8 0, .int .u8 0, .int .u8 0, .int .u8 0, .int .u8 0, .int .u8 0, .int .u8 0, .int .u8 0, .int .u8 0, .int .u8 0, .int .u32 0, .int .i64 0, .string ⟨#[]⟩, .int .i64 0, .string ⟨#[]⟩, .slice none 0 0] 29)) w1.heap.size _ LM.toArray _ _ hrow2
  have hb3 : Below w1.heap.size w1 ((w1.alloc (.cells #[.int .i64 0, .int .u8 0, .int .u8 0, .int .u8 0, .int .u8 0, .int .u8 0, .int .u8 0, .int .u8 0, .int .u8 0, .int .u8 0, .int .u8 0, .int .u8 0, .int .u8 0, .int .u32 0, .int .i64 0, .string ⟨#[]⟩, .int .i64 0, .string ⟨#[]⟩, .slice none 0 0] 29)).setRow w1.heap.size LM.toArray) := srow_below ((Below.refl _ _).alloc (Nat.le_refl _) _) _ (Nat.le_refl _) _
  obtain ⟨w3, hw3⟩ : ∃ w3, (w1.alloc (.cells #[.int .i64 0, .int .u8 0, .int .u8 0, .int .u8 0, .int .u8 0, .int .u8 0, .int .u8 0, .int .u8 0, .int .u8 0, .int .u8 0, .int .u8 0, .int .u8 0, .int .u8 0, .int .u32 0, .int .i64 0, .string ⟨#[]⟩, .int .i64 0, .string ⟨#[]⟩, .slice none 0 0] 29)).setRow w1.heap.size LM.toArray = w3 := ⟨_, rfl⟩
  rw [hw3] at hrow3 hb3
  obtain ⟨g, hg⟩ : ∃ g, w1.heap.size = g := ⟨_, rfl⟩
  have r13 := (hb3.block _ (by omega)).trans r1
  have r23 := (hb3.block _ (by omega)).trans r2
  have HB3 := uhid (HBW1.out.trans (hb3.mono HBW1.out.size))
  have hw3l : w.heap.size + 1 < w3.heap.size := Nat.lt_of_lt_of_le hw1l hb3.size
  rw [hg] at hrow2 hrow3 hw3
  have R13 := uhid r13
  have R23 := uhid r23
  have HROW2 := uhid hrow2
  have HROW3 := uhid hrow3
  have HW3 := uhid hw3
  have I23 : Hid ((Try.prog.info? 23).map (·.size) = some ([v0, v1, v2, v3, v4, v5, v6, v7, v8, v9, v10, v11] : List Value).toArray.size) := by show _ = _; kernel_rfl
  have heqL : #[.int .i64 2, v0, v1, v2, v3, v4, v5, v6, v7, v8, v9, v10, v11, .int .u32 (ho : Int), .int .i64 po, .string ⟨#[]⟩, .int .i64 0, .string ⟨#[]⟩, .slice none 0 0] = LM.toArray := HRM.out.symm.trans HL.out.eq
  have HEQ := uhid heqL
  clear hrow2 hrow3 hw3 hb3 hb1 r1 r2 r13 r23 HB1 H1 H2 heqL
  go_wp2_with (first
    | refine wpList_load_row rfl 23 _ rfl w.heap.size rfl 23 _ (0, 0) _ R1.out Try.underlying23 rfl I23.out ?_
    | refine wpList_load_row rfl 26 _ rfl (w.heap.size + 1) rfl 26 _ (0, 0) _ R2.out Try.underlying26 rfl rfl ?_
    | (refine wpList_store_row rfl 29 (.tmp 6) (.tmp 14) rfl g LM.toArray rfl (by rw [← HEQ.out]; rfl) 29 _ HROW2.out HL.out.inf HL.out.sz HL.out.one ?_; rw [HW3.out])
    | refine wpList_load_row rfl 29 _ rfl g rfl 29 _ (0, 0) _ HROW3.out Try.underlying29 rfl HL.out.inf ?_)
  rw [← HL.out.eq]
  have q3 : w3.cell? ⟨w.heap.size + 1, 1, none⟩ = some (.int .i64 po) := by rw [cell_of_row w3 _ 1 _ _ (0, 0) R23.out]; rfl
  by_cases hp : 0 ≤ po ∧ po ≤ 65535
  · obtain ⟨hp0, hp1⟩ := hp
    have hri : rightS m = true := by rw [mri]; exact decide_eq_true ⟨hp0, hp1⟩
    refine (sencode_yes m none 0 w3 (mok w3) hri mho mid).mono ?_
    rintro e w4 ⟨a4, n4, c4, rfl, hn4, hN4⟩
    have hdec : decS (encS m) = some m := decS_encS m ((rightS_iff m).1 hri) mid mho
    obtain ⟨EE, hEE⟩ : ∃ EE, encS m = EE := ⟨_, rfl⟩
    rw [hEE] at hN4 hdec hn4 mle
    rw [mle] at hn4
    subst hn4
    have HP4 := uhid (hN4.at_ mle)
    have HB4 := uhid (HB3.out.trans (hN4.1.mono HB3.out.size))
    have hw4l : w.heap.size + 1 < w4.heap.size := Nat.lt_of_lt_of_le hw3l hN4.1.size
    have R14 := uhid ((hN4.1.block _ (by omega)).trans R13.out)
    have R24 := uhid ((hN4.1.block _ hw3l).trans R23.out)
    have q4 : w4.cell? ⟨w.heap.size + 1, 1, none⟩ = some (.int .i64 po) := by rw [cell_of_row w4 _ 1 _ _ (0, 0) R24.out]; rfl
    have HD := uhid hdec
    have g0 : ¬ po < 0 := by omega
    have g1 : ¬ (65535 : Int) < po := by omega
    clear hN4 hEE hdec q3 mri
    go_wp2_with fail
    refine (sdecode_any a4 40 c4 EE w4 HP4.out.1 HP4.out.2.1 HP4.out.2.2.1 HP4.out.2.2.2 (by omega)).mono ?_
    intro e w5 hE
    rw [HD.out] at hE
    obtain ⟨ua, uc, rfl, hb5, hN5, _⟩ := hE
    have hunk : m.unk = [] := by rw [HM.out]
    obtain ⟨L, hL⟩ := msgL m ua uc
    have hrow5 := heap_alloc_new w5 (.cells #[.int .i64 0, .int .u8 0, .int .u8 0, .int .u8 0, .int .u8 0, .int .u8 0, .int .u8 0, .int .u8 0, .int .u8 0, .int .u8 0, .int .u8 0, .int .u8 0, .int .u8 0, .int .u32 0, .int .i64 0, .string ⟨#[]⟩, .int .i64 0, .string ⟨#[]⟩, .slice none 0 0] 29)
    have hrow6 := setRow_heap (w5.alloc (.cells #[.int .i64 0, .int .u8 0, .int .u8 0, .int .u8 0, .int .u8 0, .int .u8 0, .int .u8 0, .int .u8 0, .int .u8 0, .int .u8 0, .int .u8 0, .int .u8 0, .int .u8 0, .int .u32 0, .int .i64 0, .string ⟨#[]⟩, .int .i64 0, .string ⟨#[]⟩, .slice none 0 0] 29)) w5.heap.size _ L.toArray _ _ hrow5
    have hb6 : Below w5.heap.size w5 ((w5.alloc (.cells #[.int .i64 0, .int .u8 0, .int .u8 0, .int .u8 0, .int .u8 0, .int .u8 0, .int .u8 0, .int .u8 0, .int .u8 0, .int .u8 0, .int .u8 0, .int .u8 0, .int .u8 0, .int .u32 0, .int .i64 0, .string ⟨#[]⟩, .int .i64 0, .string ⟨#[]⟩, .slice none 0 0] 29)).setRow w5.heap.size L.toArray) := srow_below ((Below.refl _ _).alloc (Nat.le_refl _) _) _ (Nat.le_refl _) _
    obtain ⟨w6, hw6⟩ : ∃ w6, (w5.alloc (.cells #[.int .i64 0, .int .u8 0, .int .u8 0, .int .u8 0, .int .u8 0, .int .u8 0, .int .u8 0, .int .u8 0, .int .u8 0, .int .u8 0, .int .u8 0, .int .u8 0, .int .u8 0, .int .u32 0, .int .i64 0, .string ⟨#[]⟩, .int .i64 0, .string ⟨#[]⟩, .slice none 0 0] 29)).setRow w5.heap.size L.toArray = w6 := ⟨_, rfl⟩
    rw [hw6] at hrow6 hb6
    obtain ⟨k, hk⟩ : ∃ k, w5.heap.size = k := ⟨_, rfl⟩
    have hw5l : w.heap.size + 1 < w5.heap.size := Nat.lt_of_lt_of_le hw4l hb5.size
    have HB6 := uhid ((HB4.out.trans (hb5.mono HB4.out.size)).trans (hb6.mono (by have := HB4.out.size; have := hb5.size; omega)))
    have R16 := uhid ((hb6.block _ (by omega)).trans ((hb5.block _ (by omega)).trans R14.out))
    have R26 := uhid ((hb6.block _ hw5l).trans ((hb5.block _ hw4l).trans R24.out))
    rw [hk] at hrow5 hrow6 hw6
    rw [← hL.eq] at hrow6
    have hbox : MBox w6 k m ua uc := ⟨⟨_, rfl, hrow6⟩, (Array.getElem?_eq_some_iff.1 hrow6).1⟩
    have s0 : w6.cell? ⟨k, 0, none⟩ = some (.int .i64 2) := by have := hbox.cls; rw [HM.out] at this; exact this
    have s18 : w6.cell? ⟨k, 18, none⟩ = some (.slice ua 0 uc) := by have := hbox.unk; rw [hunk] at this; exact this
    have hAD : ∀ j v, ([.int .u32 (ho : Int), .int .i64 po] : List Value)[j]? = some v → w6.cell? ⟨k, 13 + j, none⟩ = some v := by have := hbox.addr; rw [HM.out] at this; exact this
    have hID : ∀ j v, (l0.map bv)[j]? = some v → w6.cell? ⟨k, 1 + j, none⟩ = some v := by have := hbox.idC mid; rw [HM.out] at this; exact this
    have hq := arr_eq w6 23 12 l0 l0 w0 w0 Try.underlying23
    have r16 := R16.out
    rw [← HMAP.out] at r16
    have R16' := uhid r16
    have I23' : Hid ((Try.prog.info? 23).map (·.size) = some (l0.map bv).length) := by show _ = _; rw [List.length_map, w0]; kernel_rfl
    have I23a : Hid ((Try.prog.info? 23).map (·.size) = some (l0.map bv).toArray.size) := by show _ = _; rw [List.size_toArray, List.length_map, w0]; kernel_rfl
    have HAD := uhid hAD
    have HIDc := uhid hID
    have HROW5 := uhid hrow5
    have HW6 := uhid hw6
    have HLL := uhid hL
    rw [decide_eq_true (rfl : l0 = l0)] at hq
    clear hrow5 hrow6 hw6 hb6 hb5 hL hbox hAD hID r16 hN5 R16 HP4 HB4 R14 R24 HB3 R13 R23 HL HROW3 HROW2 HW3 HEQ HRM HMAP I23 HLE HD q4
    rw [HLL.out.eq]
    go_wp2_with (first
      | (refine wpList_store_row rfl 29 (.tmp 9) (.tmp 41) rfl k L.toArray rfl rfl 29 _ HROW5.out HLL.out.inf HLL.out.sz HLL.out.one ?_; rw [HW6.out])
      | refine mload_part_if rfl 26 (.tmp 58) rfl k 13 rfl _ _ HAD.out Try.underlying26 rfl rfl ?_
      | refine mload_if rfl 26 (.tmp 3) rfl (w.heap.size + 1) rfl 26 _ (0, 0) _ R26.out Try.underlying26 rfl rfl ?_
      | refine mload_part_if rfl 23 (.tmp 64) rfl k 1 rfl _ _ HIDc.out Try.underlying23 rfl I23'.out ?_
      | refine mload_if rfl 23 (.tmp 2) rfl w.heap.size rfl 23 _ (0, 0) _ R16'.out Try.underlying23 rfl I23a.out ?_)
    go_ret
    exact ⟨rfl, HB6.out⟩
  · have hri : rightS m = false := by rw [mri]; exact decide_eq_false hp
    refine (sencode_no m none 0 w3 (mok w3) hri).mono ?_
    rintro e w4 ⟨rfl, hb4⟩
    have HB4 := uhid (HB3.out.trans (hb4.mono HB3.out.size))
    have q4 : w4.cell? ⟨w.heap.size + 1, 1, none⟩ = some (.int .i64 po) := by rw [cell_of_row w4 _ 1 _ _ (0, 0) ((hb4.block _ hw3l).trans R23.out)]; rfl
    clear hb4 q3 mri
    by_cases h0 : po < 0
    · go_wp2_with fail
      go_ret
      exact ⟨rfl, HB4.out⟩
    · have h1 : (65535 : Int) < po := by omega
      go_wp2_with fail
      go_ret
      exact ⟨rfl, HB4.out⟩
end Go.Proofs.Ytejbhjcopldekaa.stunSeen
