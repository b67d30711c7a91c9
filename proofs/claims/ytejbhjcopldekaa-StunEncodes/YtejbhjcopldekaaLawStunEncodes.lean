/- StunEncodes: a message has the bytes that the document says, if it is right. For every message, without a condition. -/
import Derived.Test.YtejbhjcopldekaaStuX
import Derived.Test.YtejbhjcopldekaaStuV
import Derived.Test.YtejbhjcopldekaaRefSc
namespace Go.Proofs.Ytejbhjcopldekaa.stunEncodes
open Go.ChangeShapes Go.WideShapes Go.ChangeAt Go.RowKit
set_option linter.unusedVariables false
set_option maxRecDepth 100000

theorem ints_of {w : World} {a : Option Addr} {n : Nat} {l : List Int} (h : NumsAt w a n l) : IntsAt w a n l := ⟨h.len, h.at_⟩
set_option maxHeartbeats 4000000 in
theorem walk (m : SM) (ua : Option Addr) (uc : Nat) (zs : List Int) (w : World) (hI : SmIn w m ua uc zs) :
    Calls Try.prog 3 #[.agg (sMsg m ua uc)] w fun e w' => e = .returned (.bool true) ∧ Below w.heap.size w w' := by
  have hM := MBox.new w m ua uc
  have hb0 : Below w.heap.size w (w.alloc (.cells (sMsg m ua uc) 29)) := (Below.refl _ _).alloc (Nat.le_refl _) _
  have HOKf := uhid (mok_few hI)
  have HIN := uhid hI
  obtain ⟨f, hf⟩ : ∃ f, fewS m = f := ⟨_, rfl⟩
  have fid : f.id.length = 12 := by rw [← hf]; exact hI.id
  have fho : f.host < 4294967296 := by rw [← hf]; exact hI.host
  rw [hf] at HOKf
  have HF := uhid hf
  obtain ⟨L0, hL0⟩ := msgL m ua uc
  obtain ⟨L, hL⟩ := msgL f ua uc
  have HL0 := uhid hL0
  have HL := uhid hL
  rw [hL0.eq] at hb0 hM ⊢
  have HM := uhid hM
  have HB0 := uhid hb0
  clear hM hb0 hI hf hL0 hL
  go_enter Try.func3, Try.ntmps3
  go_wp2_with fail
  obtain ⟨W, hW⟩ : ∃ W, w.alloc (.cells L0.toArray 29) = W := ⟨_, rfl⟩
  rw [hW] at HM HB0
  rw [hW]
  clear hW
  refine (stuShown_any W).mono ?_
  rintro e w1 ⟨rfl, hb1⟩
  have HM1 := uhid (HM.out.later hb1 HM.out.lt (Nat.le_refl _))
  have HB1 := uhid (HB0.out.trans (hb1.mono HB0.out.size))
  have HR1 := uhid (HM1.out.rowL HL0.out)
  clear hb1 HM HB0
  go_wp2_with (refine wpList_load_row rfl 29 _ rfl w.heap.size rfl 29 _ (0, 0) _ HR1.out Try.underlying29 rfl HL0.out.inf ?_)
  rw [← HL0.out.eq]
  refine (few_any m ua uc zs w1 (HIN.out.later HB1.out)).mono ?_
  rintro e w2 ⟨rfl, hb2⟩
  rw [HF.out]
  have hM2 := HM1.out.later hb2 HM1.out.lt (Nat.le_refl _)
  have HB2 := uhid (HB1.out.trans (hb2.mono HB1.out.size))
  have HR2 := uhid (hM2.rowL HL0.out)
  have hM3 := hM2.set f ua uc L HL.out
  have hb3 : Below w.heap.size w (w2.setRow w.heap.size L.toArray) := srow_below HB2.out _ (Nat.le_refl _) _
  obtain ⟨w3, hw3⟩ : ∃ w3, w2.setRow w.heap.size L.toArray = w3 := ⟨_, rfl⟩
  rw [hw3] at hM3 hb3
  have HM3 := uhid hM3
  have HB3 := uhid hb3
  have HW3 := uhid hw3
  have HR3 := uhid (hM3.rowL HL.out)
  have HOK3 := uhid (HOKf.out.later hb3)
  have hsz : Hid (L0.toArray.size = L.toArray.size) := uhid (HL0.out.sz.symm.trans HL.out.sz)
  clear hb2 hM2 hM3 hb3 hw3 HM1 HB1 HR1 HB2
  rw [HL.out.eq]
  go_wp2_with (first
    | (refine wpList_store_row rfl 29 (.tmp 1) (.tmp 10) rfl w.heap.size L.toArray rfl rfl 29 _ HR2.out HL.out.inf hsz.out HL.out.one ?_; rw [HW3.out])
    | refine wpList_load_row rfl 29 _ rfl w.heap.size rfl 29 _ (0, 0) _ HR3.out Try.underlying29 rfl HL.out.inf ?_)
  rw [← HL.out.eq]
  cases hr : rightS f with
  | true =>
    refine (sencode_yes f ua uc w3 HOK3.out hr fho fid).mono ?_
    rintro e w4 ⟨a4, n4, c4, rfl, hn4, hN4⟩
    have HP4 := uhid (hN4.at_ hn4.symm)
    have hb4 := hN4.1
    clear hN4 hn4
    have HM4 := uhid (HM3.out.later hb4 HM3.out.lt (Nat.le_refl _))
    have HB4 := uhid (HB3.out.trans (hb4.mono HB3.out.size))
    have HR4 := uhid (HM4.out.rowL HL.out)
    clear hb4
    go_wp2_with (refine wpList_load_row rfl 29 _ rfl w.heap.size rfl 29 _ (0, 0) _ HR4.out Try.underlying29 rfl HL.out.inf ?_)
    rw [← HL.out.eq]
    refine (ref_any f ua uc w4 fid).mono ?_
    rintro e w6 ⟨ia, ic, rfl, hb6, hB6, hn6⟩
    have hrow6 := heap_alloc_new w6 (.cells #[.int .i64 0, .slice none 0 0, .int .u32 0, .int .i64 0, .string ⟨#[]⟩, .int .i64 0, .string ⟨#[]⟩, .slice none 0 0] 37)
    have hrow7 := setRow_heap (w6.alloc (.cells #[.int .i64 0, .slice none 0 0, .int .u32 0, .int .i64 0, .string ⟨#[]⟩, .int .i64 0, .string ⟨#[]⟩, .slice none 0 0] 37)) w6.heap.size _ (dMsg f ia ic ua uc) _ _ hrow6
    have hb7 : Below w6.heap.size w6 ((w6.alloc (.cells #[.int .i64 0, .slice none 0 0, .int .u32 0, .int .i64 0, .string ⟨#[]⟩, .int .i64 0, .string ⟨#[]⟩, .slice none 0 0] 37)).setRow w6.heap.size (dMsg f ia ic ua uc)) := srow_below ((Below.refl _ _).alloc (Nat.le_refl _) _) _ (Nat.le_refl _) _
    obtain ⟨w7, hw7⟩ : ∃ w7, (w6.alloc (.cells #[.int .i64 0, .slice none 0 0, .int .u32 0, .int .i64 0, .string ⟨#[]⟩, .int .i64 0, .string ⟨#[]⟩, .slice none 0 0] 37)).setRow w6.heap.size (dMsg f ia ic ua uc) = w7 := ⟨_, rfl⟩
    rw [hw7] at hrow7 hb7
    obtain ⟨g, hg⟩ : ∃ g, w6.heap.size = g := ⟨_, rfl⟩
    rw [hg] at hrow6 hrow7 hw7
    have HB7 := uhid (HB4.out.trans ((hb6.trans (hb7.mono hb6.size)).mono HB4.out.size))
    have hb47 : Below w4.heap.size w4 w7 := hb6.trans (hb7.mono hb6.size)
    have HM7 := uhid (HM4.out.later hb47 HM4.out.lt (Nat.le_refl _))
    have HROW6 := uhid hrow6
    have HROW7 := uhid hrow7
    have HW7 := uhid hw7
    have HBy7 := uhid (hB6.later hb7)
    have Hn7 := uhid hn6
    have HR7 := uhid (HM7.out.rowL HL.out)
    have HP7 := uhid (HP4.out.1.later hb47)
    clear HP4
    clear hb6 hB6 hn6 hrow6 hrow7 hw7 hb7 hb47 HM4 HB4 HR4
    go_wp2_with (first
      | (refine wpList_store_row rfl 37 (.tmp 6) (.tmp 17) rfl g (dMsg f ia ic ua uc) rfl rfl 37 _ HROW6.out (dMsg_inf _ _ _ _ _) rfl (dMsg_one _ _ _ _ _) ?_; rw [HW7.out])
      | refine wpList_load_row rfl 37 _ rfl g rfl 37 _ (0, 0) _ HROW7.out Try.underlying37 rfl (dMsg_inf _ _ _ _ _) ?_)
    refine (refRight_any f ia ic ua uc w7 (ints_of (HOKf.out.later HB7.out).nums) HOKf.out.unk HOKf.out.soft HOKf.out.reason).mono ?_
    rintro e w8 ⟨rfl, hb8⟩
    rw [hr]
    have HM8 := uhid (HM7.out.later hb8 HM7.out.lt (Nat.le_refl _))
    have HB8 := uhid (HB7.out.trans (hb8.mono HB7.out.size))
    have HR8 := uhid (HM8.out.rowL HL.out)
    have hgl : g < w7.heap.size := (Array.getElem?_eq_some_iff.1 HROW7.out).1
    have HROW8 := uhid ((hb8.block g hgl).trans HROW7.out)
    have HBy8 := uhid (HBy7.out.later hb8)
    have HP8 := uhid (HP7.out.later hb8)
    clear hb8 HM7 HB7 HR7 HROW6 HROW7 HW7 HBy7 HP7
    go_wp2_with (refine wpList_load_row rfl 29 _ rfl w.heap.size rfl 29 _ (0, 0) _ HR8.out Try.underlying29 rfl HL.out.inf ?_)
    rw [← HL.out.eq]
    refine (right_any f ua uc w8 (HOKf.out.later HB8.out)).mono ?_
    rintro e w9 ⟨rfl, hb9⟩
    rw [hr]
    have HB9 := uhid (HB8.out.trans (hb9.mono HB8.out.size))
    have hgl8 : g < w8.heap.size := (Array.getElem?_eq_some_iff.1 HROW8.out).1
    have HROW9 := uhid ((hb9.block g hgl8).trans HROW8.out)
    have HBy9 := uhid (HBy8.out.later hb9)
    have HP9 := uhid (HP8.out.later hb9)
    clear hb9 HM8 HB8 HR8 HROW8 HBy8 hgl hgl8 HP8
    go_wp2_with fail
    obtain ⟨V, hV⟩ : ∃ V, w9.drew = V := ⟨_, rfl⟩
    have hdr : Below w9.heap.size w9 V := by rw [← hV]; exact (Below.refl _ _).drew
    have HBV := uhid (HB9.out.trans (hdr.mono HB9.out.size))
    have HROWV := uhid ((hdr.block g (Array.getElem?_eq_some_iff.1 HROW9.out).1).trans HROW9.out)
    have HByV := uhid (HBy9.out.later hdr)
    have HPV := uhid (HP9.out.later hdr)
    have hglV : g < V.heap.size := (Array.getElem?_eq_some_iff.1 HROWV.out).1
    obtain ⟨EE, hEE⟩ : ∃ EE, encS f = EE := ⟨_, rfl⟩
    rw [hEE] at HPV
    have HEE := uhid hEE
    refine wp_region_sched' (G := Grows) (by kernel_rfl) Grows.refl Grows.trans (by kernel_rfl) [(0, true), (1, true), (2, true), (3, true), (4, true), (5, true), (6, true), (7, true), (8, true), (9, false), (10, true), (11, true), (12, true), (13, true)] rfl (by kernel_rfl) ?_
    intro KK hKK
    rw [hV]
    clear hV hdr HB9 HROW9 HBy9 HP9 hEE
    iterate 8 (refine sched_take rfl (by rfl) (v := ?_) ?_ ?_; rotate_left; (intro w' hw'; have q1 := conv_bytes w' a4 n4 c4 EE (HPV.out.on hw'); clear hw'; go_simp; with_reducible rfl); go_simp)
    refine sched_take rfl (by rfl) (v := .agg (dMsg f ia ic ua uc)) (fun w' hw' => exec_load_row 37 _ rfl g rfl 37 _ (0, 0) _ ((hw'.block g hglV).trans HROWV.out) Try.underlying37 rfl (dMsg_inf _ _ _ _ _)) ?_
    go_simp
    refine sched_call (f := 15) (args := #[.agg (dMsg f ia ic ua uc)]) rfl (by rfl) (by go_simp) ?_
    refine (refEncode_any f ia ic ua uc V ((rightS_iff f).1 hr) fho fid HByV.out Hn7.out (ints_of (HOKf.out.later HBV.out).nums)).mono ?_
    rintro e w10 ⟨a10, n10, c10, rfl, hn10, hN10⟩
    rw [HEE.out] at hN10 hn10
    refine ⟨_, rfl, hN10.1, ?_⟩
    have HP10 := uhid (hN10.at_ hn10.symm)
    have HB10 := uhid (HBV.out.trans (hN10.1.mono HBV.out.size))
    clear hN10 hn10 HPV HByV HROWV
    go_simp
    iterate 4 (refine sched_take rfl (by rfl) (v := ?_) ?_ ?_; rotate_left; (intro w' hw'; have q1 := conv_bytes w' a10 n10 c10 EE (HP10.out.1.on hw'); clear hw'; go_simp; with_reducible rfl); go_simp)
    refine sched_done hKK ?_
    clear hKK
    go_wp2_with fail
    go_ret
    exact ⟨rfl, HB10.out⟩
  | false =>
    refine (sencode_no f ua uc w3 HOK3.out hr).mono ?_
    rintro e w4 ⟨rfl, hb4⟩
    have HM4 := uhid (HM3.out.later hb4 HM3.out.lt (Nat.le_refl _))
    have HB4 := uhid (HB3.out.trans (hb4.mono HB3.out.size))
    have HR4 := uhid (HM4.out.rowL HL.out)
    clear hb4
    go_wp2_with (refine wpList_load_row rfl 29 _ rfl w.heap.size rfl 29 _ (0, 0) _ HR4.out Try.underlying29 rfl HL.out.inf ?_)
    rw [← HL.out.eq]
    refine (ref_any f ua uc w4 fid).mono ?_
    rintro e w6 ⟨ia, ic, rfl, hb6, hB6, hn6⟩
    have hrow6 := heap_alloc_new w6 (.cells #[.int .i64 0, .slice none 0 0, .int .u32 0, .int .i64 0, .string ⟨#[]⟩, .int .i64 0, .string ⟨#[]⟩, .slice none 0 0] 37)
    have hrow7 := setRow_heap (w6.alloc (.cells #[.int .i64 0, .slice none 0 0, .int .u32 0, .int .i64 0, .string ⟨#[]⟩, .int .i64 0, .string ⟨#[]⟩, .slice none 0 0] 37)) w6.heap.size _ (dMsg f ia ic ua uc) _ _ hrow6
    have hb7 : Below w6.heap.size w6 ((w6.alloc (.cells #[.int .i64 0, .slice none 0 0, .int .u32 0, .int .i64 0, .string ⟨#[]⟩, .int .i64 0, .string ⟨#[]⟩, .slice none 0 0] 37)).setRow w6.heap.size (dMsg f ia ic ua uc)) := srow_below ((Below.refl _ _).alloc (Nat.le_refl _) _) _ (Nat.le_refl _) _
    obtain ⟨w7, hw7⟩ : ∃ w7, (w6.alloc (.cells #[.int .i64 0, .slice none 0 0, .int .u32 0, .int .i64 0, .string ⟨#[]⟩, .int .i64 0, .string ⟨#[]⟩, .slice none 0 0] 37)).setRow w6.heap.size (dMsg f ia ic ua uc) = w7 := ⟨_, rfl⟩
    rw [hw7] at hrow7 hb7
    obtain ⟨g, hg⟩ : ∃ g, w6.heap.size = g := ⟨_, rfl⟩
    rw [hg] at hrow6 hrow7 hw7
    have HB7 := uhid (HB4.out.trans ((hb6.trans (hb7.mono hb6.size)).mono HB4.out.size))
    have hb47 : Below w4.heap.size w4 w7 := hb6.trans (hb7.mono hb6.size)
    have HM7 := uhid (HM4.out.later hb47 HM4.out.lt (Nat.le_refl _))
    have HROW6 := uhid hrow6
    have HROW7 := uhid hrow7
    have HW7 := uhid hw7
    have HBy7 := uhid (hB6.later hb7)
    have Hn7 := uhid hn6
    have HR7 := uhid (HM7.out.rowL HL.out)
    clear hb6 hB6 hn6 hrow6 hrow7 hw7 hb7 hb47 HM4 HB4 HR4
    go_wp2_with (first
      | (refine wpList_store_row rfl 37 (.tmp 6) (.tmp 17) rfl g (dMsg f ia ic ua uc) rfl rfl 37 _ HROW6.out (dMsg_inf _ _ _ _ _) rfl (dMsg_one _ _ _ _ _) ?_; rw [HW7.out])
      | refine wpList_load_row rfl 37 _ rfl g rfl 37 _ (0, 0) _ HROW7.out Try.underlying37 rfl (dMsg_inf _ _ _ _ _) ?_)
    refine (refRight_any f ia ic ua uc w7 (ints_of (HOKf.out.later HB7.out).nums) HOKf.out.unk HOKf.out.soft HOKf.out.reason).mono ?_
    rintro e w8 ⟨rfl, hb8⟩
    rw [hr]
    have HM8 := uhid (HM7.out.later hb8 HM7.out.lt (Nat.le_refl _))
    have HB8 := uhid (HB7.out.trans (hb8.mono HB7.out.size))
    have HR8 := uhid (HM8.out.rowL HL.out)
    have hgl : g < w7.heap.size := (Array.getElem?_eq_some_iff.1 HROW7.out).1
    have HROW8 := uhid ((hb8.block g hgl).trans HROW7.out)
    have HBy8 := uhid (HBy7.out.later hb8)
    clear hb8 HM7 HB7 HR7 HROW6 HROW7 HW7 HBy7
    go_wp2_with (refine wpList_load_row rfl 29 _ rfl w.heap.size rfl 29 _ (0, 0) _ HR8.out Try.underlying29 rfl HL.out.inf ?_)
    rw [← HL.out.eq]
    refine (right_any f ua uc w8 (HOKf.out.later HB8.out)).mono ?_
    rintro e w9 ⟨rfl, hb9⟩
    rw [hr]
    have HB9 := uhid (HB8.out.trans (hb9.mono HB8.out.size))
    have hgl8 : g < w8.heap.size := (Array.getElem?_eq_some_iff.1 HROW8.out).1
    have HROW9 := uhid ((hb9.block g hgl8).trans HROW8.out)
    have HBy9 := uhid (HBy8.out.later hb9)
    clear hb9 HM8 HB8 HR8 HROW8 HBy8 hgl hgl8
    go_wp2_with fail
    go_ret
    exact ⟨rfl, HB9.out⟩
end Go.Proofs.Ytejbhjcopldekaa.stunEncodes
