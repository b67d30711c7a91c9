/- StunBack: what was told is read as it was. For every message, without a condition. -/
import Derived.Test.YtejbhjcopldekaaStuX
import Derived.Test.YtejbhjcopldekaaStuW
namespace Go.Proofs.Ytejbhjcopldekaa.stunBack
open Go.ChangeShapes Go.WideShapes Go.ChangeAt Go.RowKit
set_option linter.unusedVariables false
set_option maxRecDepth 100000

theorem ints_of {w : World} {a : Option Addr} {n : Nat} {l : List Int} (h : NumsAt w a n l) : IntsAt w a n l := ⟨h.len, h.at_⟩
set_option maxHeartbeats 4000000 in
theorem walk (m : SM) (ua : Option Addr) (uc : Nat) (zs : List Int) (w : World) (hI : SmIn w m ua uc zs) :
    Calls Try.prog 5 #[.agg (sMsg m ua uc)] w fun e w' => e = .returned (.bool true) ∧ Below w.heap.size w w' := by
  have hM := MBox.new w m ua uc
  have hb0 : Below w.heap.size w (w.alloc (.cells (sMsg m ua uc) 29)) := (Below.refl _ _).alloc (Nat.le_refl _) _
  have HOKf := uhid (mok_few hI)
  have HIN := uhid hI
  obtain ⟨f, hf⟩ : ∃ f, fewS m = f := ⟨_, rfl⟩
  have fid : f.id.length = 12 := by rw [← hf]; exact hI.id
  have fho : f.host < 4294967296 := by rw [← hf]; exact hI.host
  rw [hf] at HOKf
  have HF := uhid hf
  obtain ⟨L0, hL0⟩ := msgL m ua uc
  obtain ⟨L, hL⟩ := msgL f ua uc
  have HL0 := uhid hL0
  have HL := uhid hL
  rw [hL0.eq] at hb0 hM ⊢
  have HM := uhid hM
  have HB0 := uhid hb0
  clear hM hb0 hI hf hL0 hL
  go_enter Try.func5, Try.ntmps5
  go_wp2_with fail
  obtain ⟨W, hW⟩ : ∃ W, w.alloc (.cells L0.toArray 29) = W := ⟨_, rfl⟩
  rw [hW] at HM HB0
  rw [hW]
  clear hW
  refine (stuShown_any W).mono ?_
  rintro e w1 ⟨rfl, hb1⟩
  have HM1 := uhid (HM.out.later hb1 HM.out.lt (Nat.le_refl _))
  have HB1 := uhid (HB0.out.trans (hb1.mono HB0.out.size))
  have HR1 := uhid (HM1.out.rowL HL0.out)
  clear hb1 HM HB0
  go_wp2_with (refine wpList_load_row rfl 29 _ rfl w.heap.size rfl 29 _ (0, 0) _ HR1.out Try.underlying29 rfl HL0.out.inf ?_)
  rw [← HL0.out.eq]
  refine (few_any m ua uc zs w1 (HIN.out.later HB1.out)).mono ?_
  rintro e w2 ⟨rfl, hb2⟩
  rw [HF.out]
  have hM2 := HM1.out.later hb2 HM1.out.lt (Nat.le_refl _)
  have HB2 := uhid (HB1.out.trans (hb2.mono HB1.out.size))
  have HR2 := uhid (hM2.rowL HL0.out)
  have hM3 := hM2.set f ua uc L HL.out
  have hb3 : Below w.heap.size w (w2.setRow w.heap.size L.toArray) := srow_below HB2.out _ (Nat.le_refl _) _
  obtain ⟨w3, hw3⟩ : ∃ w3, w2.setRow w.heap.size L.toArray = w3 := ⟨_, rfl⟩
  rw [hw3] at hM3 hb3
  have HM3 := uhid hM3
  have HB3 := uhid hb3
  have HW3 := uhid hw3
  have HR3 := uhid (hM3.rowL HL.out)
  have HOK3 := uhid (HOKf.out.later hb3)
  have hsz : Hid (L0.toArray.size = L.toArray.size) := uhid (HL0.out.sz.symm.trans HL.out.sz)
  clear hb2 hM2 hM3 hb3 hw3 HM1 HB1 HR1 HB2
  rw [HL.out.eq]
  go_wp2_with (first
    | (refine wpList_store_row rfl 29 (.tmp 1) (.tmp 10) rfl w.heap.size L.toArray rfl rfl 29 _ HR2.out HL.out.inf hsz.out HL.out.one ?_; rw [HW3.out])
    | refine wpList_load_row rfl 29 _ rfl w.heap.size rfl 29 _ (0, 0) _ HR3.out Try.underlying29 rfl HL.out.inf ?_)
  rw [← HL.out.eq]
  cases hr : rightS f with
  | true =>
    refine (sencode_yes f ua uc w3 HOK3.out hr fho fid).mono ?_
    rintro e w4 ⟨a4, n4, c4, rfl, hn4, hN4⟩
    have hdec : decS (encS f) = some f := decS_encS f ((rightS_iff f).1 hr) fid fho
    have hsm := encS_small f ((rightS_iff f).1 hr) fid
    have h4 := encS_four f fid
    obtain ⟨EE, hEE⟩ : ∃ EE, encS f = EE := ⟨_, rfl⟩
    rw [hEE] at hN4 hn4 hdec hsm h4
    rw [← hn4] at hsm h4
    have HP4 := uhid (hN4.at_ hn4.symm)
    have HM4 := uhid (HM3.out.later hN4.1 HM3.out.lt (Nat.le_refl _))
    have HB4 := uhid (HB3.out.trans (hN4.1.mono HB3.out.size))
    have HD := uhid hdec
    have HN4l := uhid hn4
    clear hN4 hn4 hEE hdec
    go_wp2_with fail
    refine (sdecode_any a4 n4 c4 EE w4 HP4.out.1 HP4.out.2.1 HP4.out.2.2.1 HP4.out.2.2.2 (by omega)).mono ?_
    intro e w5 hE
    rw [HD.out] at hE
    obtain ⟨ub, uc2, rfl, hb5, hN5, _⟩ := hE
    obtain ⟨L5, hL5⟩ := msgL f ub uc2
    have hrow5 := heap_alloc_new w5 (.cells #[.int .i64 0, .int .u8 0, .int .u8 0, .int .u8 0, .int .u8 0, .int .u8 0, .int .u8 0, .int .u8 0, .int .u8 0, .int .u8 0, .int .u8 0, .int .u8 0, .int .u8 0, .int .u32 0, .int .i64 0, .string ⟨#[]⟩, .int .i64 0, .string ⟨#[]⟩, .slice none 0 0] 29)
    have hrow6 := setRow_heap (w5.alloc (.cells #[.int .i64 0, .int .u8 0, .int .u8 0, .int .u8 0, .int .u8 0, .int .u8 0, .int .u8 0, .int .u8 0, .int .u8 0, .int .u8 0, .int .u8 0, .int .u8 0, .int .u8 0, .int .u32 0, .int .i64 0, .string ⟨#[]⟩, .int .i64 0, .string ⟨#[]⟩, .slice none 0 0] 29)) w5.heap.size _ L5.toArray _ _ hrow5
    have hb6 : Below w5.heap.size w5 ((w5.alloc (.cells #[.int .i64 0, .int .u8 0, .int .u8 0, .int .u8 0, .int .u8 0, .int .u8 0, .int .u8 0, .int .u8 0, .int .u8 0, .int .u8 0, .int .u8 0, .int .u8 0, .int .u8 0, .int .u32 0, .int .i64 0, .string ⟨#[]⟩, .int .i64 0, .string ⟨#[]⟩, .slice none 0 0] 29)).setRow w5.heap.size L5.toArray) := srow_below ((Below.refl _ _).alloc (Nat.le_refl _) _) _ (Nat.le_refl _) _
    obtain ⟨w6, hw6⟩ : ∃ w6, (w5.alloc (.cells #[.int .i64 0, .int .u8 0, .int .u8 0, .int .u8 0, .int .u8 0, .int .u8 0, .int .u8 0, .int .u8 0, .int .u8 0, .int .u8 0, .int .u8 0, .int .u8 0, .int .u8 0, .int .u32 0, .int .i64 0, .string ⟨#[]⟩, .int .i64 0, .string ⟨#[]⟩, .slice none 0 0] 29)).setRow w5.heap.size L5.toArray = w6 := ⟨_, rfl⟩
    rw [hw6] at hrow6 hb6
    obtain ⟨g, hg⟩ : ∃ g, w5.heap.size = g := ⟨_, rfl⟩
    have hb46 : Below w4.heap.size w4 w6 := hb5.trans (hb6.mono hb5.size)
    have HB6 := uhid (HB4.out.trans (hb46.mono HB4.out.size))
    have HM6 := uhid (HM4.out.later hb46 HM4.out.lt (Nat.le_refl _))
    have HN6 := uhid (hN5.later hb6)
    rw [hg] at hrow5 hrow6 hw6
    have HROW5 := uhid hrow5
    have HROW6 := uhid hrow6
    have HW6 := uhid hw6
    have HL5 := uhid hL5
    have HR6 := uhid (HM6.out.rowL HL.out)
    clear hrow5 hrow6 hw6 hb5 hb6 hb46 hN5 hL5 HP4 HM4 HB4 HD HN4l HM3 HB3 HR3
    rw [HL5.out.eq]
    go_wp2_with (refine wpList_store_row rfl 29 (.tmp 6) (.tmp 32) rfl g L5.toArray rfl rfl 29 _ HROW5.out HL5.out.inf HL5.out.sz HL5.out.one ?_; rw [HW6.out])
    obtain ⟨V, hV⟩ : ∃ V, w6.drew = V := ⟨_, rfl⟩
    have hdr : Below w6.heap.size w6 V := by rw [← hV]; exact (Below.refl _ _).drew
    have HBV := uhid (HB6.out.trans (hdr.mono HB6.out.size))
    have HROWV := uhid ((hdr.block g (Array.getElem?_eq_some_iff.1 HROW6.out).1).trans HROW6.out)
    have HMV := uhid (HM6.out.later hdr HM6.out.lt (Nat.le_refl _))
    have HNV := uhid (HN6.out.later hdr)
    have hglV : g < V.heap.size := (Array.getElem?_eq_some_iff.1 HROWV.out).1
    have hr4 : ((n4 : Int)).tmod 4 = 0 := by rw [Int.tmod_eq_emod_of_nonneg (by omega)]; omega
    refine wp_region_sched' (G := Grows) (by kernel_rfl) Grows.refl Grows.trans (by kernel_rfl) [(0, true), (1, true), (2, true), (3, false), (4, true), (5, true), (6, true), (7, true), (8, true), (9, true), (10, true), (11, true), (12, false), (13, false), (14, true), (15, true), (16, true), (17, true), (18, true), (19, true), (20, true), (21, true)] rfl (by kernel_rfl) ?_
    intro KK hKK
    rw [hV]
    clear hV hdr HB6 HROW6 HM6 HN6 HR6 HROW5 HW6
    iterate 2 (refine sched_take rfl (by rfl) (v := ?_) ?_ ?_; rotate_left; (intro w' hw'; clear hw'; go_simp; with_reducible rfl); go_simp)
    refine sched_take rfl (by rfl) (v := .agg L.toArray) (fun w' hw' => exec_load_row 29 _ rfl w.heap.size rfl 29 _ (0, 0) _ ((HMV.out.later hw' HMV.out.lt (Nat.le_refl _)).rowL HL.out) Try.underlying29 rfl HL.out.inf) ?_
    go_simp
    refine sched_call (f := 14) (args := #[.agg L.toArray]) rfl (by rfl) (by go_simp) ?_
    rw [← HL.out.eq]
    refine (right_any f ua uc V (HOKf.out.later HBV.out)).mono ?_
    rintro e w7 ⟨rfl, hb7⟩
    rw [hr]
    refine ⟨_, rfl, hb7, ?_⟩
    have HB7 := uhid (HBV.out.trans (hb7.mono HBV.out.size))
    have HROW7 := uhid ((hb7.block g hglV).trans HROWV.out)
    have HM7 := uhid (HMV.out.later hb7 HMV.out.lt (Nat.le_refl _))
    have HN7 := uhid (HNV.out.later hb7)
    have hgl7 : g < w7.heap.size := (Array.getElem?_eq_some_iff.1 HROW7.out).1
    clear hb7 HBV HROWV HMV HNV hglV
    go_simp
    iterate 6 (refine sched_take rfl (by rfl) (v := ?_) ?_ ?_; rotate_left; (intro w' hw'; clear hw'; go_simp; with_reducible rfl); go_simp)
    refine sched_take rfl (by rfl) (v := .agg L5.toArray) (fun w' hw' => exec_load_row 29 _ rfl g rfl 29 _ (0, 0) _ (by rw [← HL5.out.eq]; exact (hw'.block g hgl7).trans (by rw [HL5.out.eq]; exact HROW7.out)) Try.underlying29 rfl (by rw [← HL5.out.eq]; rw [HL5.out.eq]; exact HL5.out.inf)) ?_
    go_simp
    refine sched_take rfl (by rfl) (v := .agg L.toArray) (fun w' hw' => exec_load_row 29 _ rfl w.heap.size rfl 29 _ (0, 0) _ ((HM7.out.later hw' HM7.out.lt (Nat.le_refl _)).rowL HL.out) Try.underlying29 rfl HL.out.inf) ?_
    go_simp
    refine sched_call (f := 12) (args := #[.agg L.toArray]) rfl (by rfl) (by go_simp) ?_
    rw [← HL.out.eq]
    refine (ref_any f ua uc w7 fid).mono ?_
    rintro e w8 ⟨ia, ic, rfl, hb8, hB8, _⟩
    refine ⟨_, rfl, hb8, ?_⟩
    have HB8 := uhid (HB7.out.trans (hb8.mono HB7.out.size))
    have HN8 := uhid (HN7.out.later hb8)
    have HBy8 := uhid hB8
    clear hb8 hB8 HB7 HROW7 HM7 HN7 hgl7
    go_simp
    refine sched_call (f := 18) (args := #[.agg L5.toArray, .agg (dMsg f ia ic ua uc)]) rfl (by rfl) (by go_simp) ?_
    rw [← HL5.out.eq]
    refine (samem_yes f ub uc2 ia ic ua uc w8 fid HN8.out (ints_of (HOKf.out.later HB8.out).nums) HBy8.out HOKf.out.unk).mono ?_
    rintro e w9 ⟨rfl, hb9⟩
    refine ⟨_, rfl, hb9, ?_⟩
    have HB9 := uhid (HB8.out.trans (hb9.mono HB8.out.size))
    clear hb9 HB8 HN8 HBy8
    go_simp
    iterate 8 (refine sched_take rfl (by rfl) (v := ?_) ?_ ?_; rotate_left; (intro w' hw'; clear hw'; go_simp; with_reducible rfl); go_simp)
    refine sched_done hKK ?_
    clear hKK
    go_wp2_with fail
    go_ret
    exact ⟨rfl, HB9.out⟩
  | false =>
    refine (sencode_no f ua uc w3 HOK3.out hr).mono ?_
    rintro e w4 ⟨rfl, hb4⟩
    have HM4 := uhid (HM3.out.later hb4 HM3.out.lt (Nat.le_refl _))
    have HB4 := uhid (HB3.out.trans (hb4.mono HB3.out.size))
    have HR4 := uhid (HM4.out.rowL HL.out)
    clear hb4
    go_wp2_with (refine mload_if rfl 29 _ rfl w.heap.size rfl 29 _ (0, 0) _ HR4.out Try.underlying29 rfl HL.out.inf ?_)
    rw [← HL.out.eq]
    refine (right_any f ua uc w4 (HOKf.out.later HB4.out)).mono ?_
    rintro e w5 ⟨rfl, hb5⟩
    rw [hr]
    have HB5 := uhid (HB4.out.trans (hb5.mono HB4.out.size))
    clear hb5 HM4 HB4 HR4
    go_wp2_with fail
    go_ret
    exact ⟨rfl, HB5.out⟩
end Go.Proofs.Ytejbhjcopldekaa.stunBack
