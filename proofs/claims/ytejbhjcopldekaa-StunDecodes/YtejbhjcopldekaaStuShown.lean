/- What must be in any case (stage 12). -/
import Derived.Test.YtejbhjcopldekaaStuS
namespace Go.Proofs.Ytejbhjcopldekaa
set_option linter.unusedVariables false
set_option maxRecDepth 100000
open Go.RowKit

def shM : SM := ⟨2, [1, 0, 0, 0, 0, 0, 0, 0, 0, 0, 0, 0], 16909060, 5, [], 0, [], []⟩
def shN : SM := ⟨1, [0, 0, 0, 0, 0, 0, 0, 0, 0, 0, 0, 0], 0, 0, [], 0, [], []⟩
theorem shM_row : sMsg shM none 0 = #[.int .i64 2, .int .u8 1, .int .u8 0, .int .u8 0, .int .u8 0, .int .u8 0, .int .u8 0, .int .u8 0, .int .u8 0, .int .u8 0, .int .u8 0, .int .u8 0, .int .u8 0, .int .u32 16909060, .int .i64 5, .string ⟨#[]⟩, .int .i64 0, .string ⟨#[]⟩, .slice none 0 0] := by kernel_rfl
theorem shN_row : sMsg shN none 0 = #[.int .i64 1, .int .u8 0, .int .u8 0, .int .u8 0, .int .u8 0, .int .u8 0, .int .u8 0, .int .u8 0, .int .u8 0, .int .u8 0, .int .u8 0, .int .u8 0, .int .u8 0, .int .u32 0, .int .i64 0, .string ⟨#[]⟩, .int .i64 0, .string ⟨#[]⟩, .slice none 0 0] := by kernel_rfl
theorem shM_right : rightS shM = true := by decide
theorem shN_right : rightS shN = false := by decide
theorem shM_len : (encS shM).length = 40 := by
  unfold encS
  rw [sFin_length, out_length shM rfl]
  decide
theorem mok_lit (w : World) (m : SM) (hc : (Lit.int .i64 m.cls).wf = true) (hu : m.unk = []) (hs : m.soft = []) (hr : m.reason = []) : MOk w m none 0 :=
  ⟨hc, ⟨rfl, (fun i hi => by rw [hu] at hi; cases hi)⟩, (fun n hn => by rw [hu] at hn; cases hn), (by rw [hu]; decide), (by rw [hs]; decide), (by rw [hr]; decide)⟩

set_option maxHeartbeats 2000000 in
theorem stuShown_any (w : World) : Calls Try.prog 9 #[] w fun e w' => e = .returned (.bool true) ∧ Below w.heap.size w w' := by
  go_enter Try.func9, Try.ntmps9
  go_wp2_with fail
  rw [← shM_row]
  refine (sencode_yes shM none 0 w (mok_lit w shM (by decide) rfl rfl rfl) shM_right (by decide) rfl).mono ?_
  rintro e w1 ⟨a1, n1, c1, rfl, hn1, hN1⟩
  have hd : decS (encS shM) = some shM := decS_encS shM ((rightS_iff shM).1 shM_right) rfl (by decide)
  obtain ⟨EE, hEE⟩ : ∃ EE, encS shM = EE := ⟨_, rfl⟩
  have hEl : EE.length = 40 := by rw [← hEE, shM_len]
  rw [hEE] at hN1 hd hn1
  rw [hEl] at hn1
  subst hn1
  have HP1 := uhid (hN1.at_ hEl)
  have HB1 := uhid hN1.1
  have HD := uhid hd
  clear hN1 hEE hd
  go_wp2_with fail
  refine (sdecode_any a1 40 c1 EE w1 HP1.out.1 HP1.out.2.1 HP1.out.2.2.1 HP1.out.2.2.2 (by omega)).mono ?_
  intro e w2 hE
  rw [HD.out] at hE
  obtain ⟨ua, uc, rfl, hb2, _, _⟩ := hE
  obtain ⟨L, hL⟩ := msgL shM ua uc
  have hrow2 := heap_alloc_new w2 (.cells #[.int .i64 0, .int .u8 0, .int .u8 0, .int .u8 0, .int .u8 0, .int .u8 0, .int .u8 0, .int .u8 0, .int .u8 0, .int .u8 0, .int .u8 0, .int .u8 0, .int .u8 0, .int .u32 0, .int .i64 0, .string ⟨#[]⟩, .int .i64 0, .string ⟨#[]⟩, .slice none 0 0] 29)
  have hrow3 := setRow_heap (w2.alloc (.cells #[.int .i64 0, .int .u8 0, .int .u8 0, .int .u8 0, .int .u8 0, .int .u8 0, .int .u8 0, .int .u8 0, .int .u8 0, .int .u8 0, .int .u8 0, .int .u8 0, .int .u8 0, .int .u32 0, .int .i64 0, .string ⟨#[]⟩, .int .i64 0, .string ⟨#[]⟩, .slice none 0 0] 29)) w2.heap.size _ L.toArray _ _ hrow2
  have hb3 : Below w2.heap.size w2 ((w2.alloc (.cells #[.int .i64 0, .int .u8 0, .int .u8 0, .int .u8 0, .int .u8 0, .int .u8 0, .int .u8 0, .int .u8 0, .int .u8 0, .int .u8 0, .int .u8 0, .int .u8 0, .int .u8 0, .int .u32 0, .int .i64 0, .string ⟨#[]⟩, .int .i64 0, .string ⟨#[]⟩, .slice none 0 0] 29)).setRow w2.heap.size L.toArray) := srow_below ((Below.refl _ _).alloc (Nat.le_refl _) _) _ (Nat.le_refl _) _
  obtain ⟨w3, hw3⟩ : ∃ w3, (w2.alloc (.cells #[.int .i64 0, .int .u8 0, .int .u8 0, .int .u8 0, .int .u8 0, .int .u8 0, .int .u8 0, .int .u8 0, .int .u8 0, .int .u8 0, .int .u8 0, .int .u8 0, .int .u8 0, .int .u32 0, .int .i64 0, .string ⟨#[]⟩, .int .i64 0, .string ⟨#[]⟩, .slice none 0 0] 29)).setRow w2.heap.size L.toArray = w3 := ⟨_, rfl⟩
  rw [hw3] at hrow3 hb3
  obtain ⟨g, hg⟩ : ∃ g, w2.heap.size = g := ⟨_, rfl⟩
  have HB3 := uhid ((HB1.out.trans (hb2.mono HB1.out.size)).trans (hb3.mono (by have := HB1.out.size; have := hb2.size; omega)))
  rw [hg] at hrow2 hrow3 hw3
  have HROW2 := uhid hrow2
  have HW3 := uhid hw3
  have HL := uhid hL
  rw [← hL.eq] at hrow3
  have HBOX : Hid (MBox w3 g shM ua uc) := uhid ⟨⟨_, rfl, hrow3⟩, (Array.getElem?_eq_some_iff.1 hrow3).1⟩
  clear hrow2 hrow3 hw3 hb3 hb2 hL HP1 HB1 HD
  rw [HL.out.eq]
  go_wp2_with (refine wpList_store_row rfl 29 (.tmp 3) (.tmp 19) rfl g L.toArray rfl rfl 29 _ HROW2.out HL.out.inf HL.out.sz HL.out.one ?_; rw [HW3.out])
  rw [← shN_row]
  refine (sencode_no shN none 0 w3 (mok_lit w3 shN (by decide) rfl rfl rfl) shN_right).mono ?_
  rintro e w4 ⟨rfl, hb4⟩
  have HB4 := uhid (HB3.out.trans (hb4.mono HB3.out.size))
  have HBOX4 := uhid (HBOX.out.later hb4 HBOX.out.lt (Nat.le_refl _))
  clear hb4 HB3 HBOX hg
  go_wp2_with fail
  refine (sdecode_any none 0 0 [] w4 ⟨rfl, .inl rfl⟩ (Nat.le_refl _) (by unfold maxLen; omega) (fun _ => rfl) (by omega)).mono ?_
  intro e w5 hE
  obtain ⟨rfl, hb5⟩ := hE
  obtain ⟨L2, hL2⟩ := msgL (sZero 0 (List.replicate 12 0)) none 0
  have hrow5 := heap_alloc_new w5 (.cells #[.int .i64 0, .int .u8 0, .int .u8 0, .int .u8 0, .int .u8 0, .int .u8 0, .int .u8 0, .int .u8 0, .int .u8 0, .int .u8 0, .int .u8 0, .int .u8 0, .int .u8 0, .int .u32 0, .int .i64 0, .string ⟨#[]⟩, .int .i64 0, .string ⟨#[]⟩, .slice none 0 0] 29)
  have hb6 : Below w5.heap.size w5 ((w5.alloc (.cells #[.int .i64 0, .int .u8 0, .int .u8 0, .int .u8 0, .int .u8 0, .int .u8 0, .int .u8 0, .int .u8 0, .int .u8 0, .int .u8 0, .int .u8 0, .int .u8 0, .int .u8 0, .int .u32 0, .int .i64 0, .string ⟨#[]⟩, .int .i64 0, .string ⟨#[]⟩, .slice none 0 0] 29)).setRow w5.heap.size L2.toArray) := srow_below ((Below.refl _ _).alloc (Nat.le_refl _) _) _ (Nat.le_refl _) _
  obtain ⟨w6, hw6⟩ : ∃ w6, (w5.alloc (.cells #[.int .i64 0, .int .u8 0, .int .u8 0, .int .u8 0, .int .u8 0, .int .u8 0, .int .u8 0, .int .u8 0, .int .u8 0, .int .u8 0, .int .u8 0, .int .u8 0, .int .u8 0, .int .u32 0, .int .i64 0, .string ⟨#[]⟩, .int .i64 0, .string ⟨#[]⟩, .slice none 0 0] 29)).setRow w5.heap.size L2.toArray = w6 := ⟨_, rfl⟩
  rw [hw6] at hb6
  have HB6 := uhid ((HB4.out.trans (hb5.mono HB4.out.size)).trans (hb6.mono (by have := HB4.out.size; have := hb5.size; omega)))
  have HBOX6 := (HBOX4.out.later hb5 HBOX4.out.lt (Nat.le_refl _)).later (B := w5.heap.size) hb6 (by have := HBOX4.out.lt; have := hb5.size; omega) (Nat.le_refl _)
  have q0 : w6.cell? ⟨g, 0, none⟩ = some (.int .i64 2) := HBOX6.cls
  have q14 : w6.cell? ⟨g, 14, none⟩ = some (.int .i64 5) := HBOX6.port
  have HROW5 := uhid hrow5
  have HW6 := uhid hw6
  have HL2 := uhid hL2
  clear hrow5 hw6 hb6 hb5 hL2 HBOX6 HBOX4 HB4 HL
  rw [HL2.out.eq]
  go_wp2_with (refine wpList_store_row rfl 29 (.tmp 7) (.tmp 28) rfl w5.heap.size L2.toArray rfl rfl 29 _ HROW5.out HL2.out.inf HL2.out.sz HL2.out.one ?_; rw [HW6.out])
  go_ret
  exact ⟨rfl, HB6.out⟩
end Go.Proofs.Ytejbhjcopldekaa
