/- StunLast: a message whose last number is another one is none; neither is one that is cut, or goes on. For every message, place, change and number of bytes, without a condition. -/
import Derived.Test.YtejbhjcopldekaaStuX
import Derived.Test.YtejbhjcopldekaaMathStuL
import Derived.Test.YtejbhjcopldekaaWalkD
namespace Go.Proofs.Ytejbhjcopldekaa.stunLast
open Go.ChangeShapes Go.WideShapes Go.ChangeAt Go.RowKit
set_option linter.unusedVariables false
set_option maxRecDepth 100000

theorem u8_of (a : Int) (h : (Lit.int .u8 a).wf = true) : ∃ y : UInt8, a = (y.toNat : Int) := by
  have hb : 0 ≤ a ∧ a ≤ 255 := by simpa [Lit.wf, IntKind.min, IntKind.max, IntKind.signed, IntKind.bits] using h
  exact ⟨UInt8.ofNat a.toNat, by rw [UInt8.toNat_ofNat']; omega⟩
theorem and_mask (x : Int) (n : Nat) (M : Int) (hn : n ≤ 16) (hM : (BitVec.ofInt 64 M).toNat = 2 ^ n - 1) : ∃ q : Nat, bits .and .i64 x M = (q : Int) ∧ q < 2 ^ n := by
  have hp : 2 ^ n ≤ 65536 := Nat.pow_le_pow_right (by decide) hn
  have hp0 : 0 < 2 ^ n := Nat.pow_pos (by decide)
  have e : (BitVec.ofInt 64 x &&& BitVec.ofInt 64 M).toNat = (BitVec.ofInt 64 x).toNat % 2 ^ n := by
    rw [BitVec.toNat_and, hM, Nat.and_two_pow_sub_one_eq_mod]
  have hlt := Nat.mod_lt (BitVec.ofInt 64 x).toNat hp0
  refine ⟨(BitVec.ofInt 64 x).toNat % 2 ^ n, ?_, hlt⟩
  show IntKind.i64.wrap ((BitVec.ofInt 64 x &&& BitVec.ofInt 64 M).toNat : Int) = _
  rw [e, IntKind.wrap_i64]
  generalize (BitVec.ofInt 64 x).toNat % 2 ^ n = r at hlt
  omega

theorem newb_blk {w W : World} {g n c : Nat} {l : List UInt8} (h : NewB w W (.slice (some ⟨g, 0, none⟩) n c) l) (hn : 0 < n) : ∃ cur, W.heap[g]? = some (.cells cur 5 (0, 0)) := by
  rcases h.2.2 with ⟨h1, h2⟩ | ⟨g', cap, cur, e, hb, hg, _⟩
  · cases h1
  · cases e
    exact ⟨cur, hg⟩
theorem blk_later {w w' : World} {g : Nat} (h : ∃ cur, w.heap[g]? = some (.cells cur 5 (0, 0))) (hb : Below w.heap.size w w') : ∃ cur, w'.heap[g]? = some (.cells cur 5 (0, 0)) := by
  obtain ⟨cur, hg⟩ := h
  exact ⟨cur, (hb.block g (Array.getElem?_eq_some_iff.1 hg).1).trans hg⟩
set_option maxHeartbeats 4000000 in
theorem walk (m : SM) (ua : Option Addr) (uc : Nat) (zs : List Int) (a1 a2 a3 : Int) (w : World) (hI : SmIn w m ua uc zs) (w1 : (Lit.int .i64 a1).wf = true) (w2 : (Lit.int .u8 a2).wf = true) (w3 : (Lit.int .i64 a3).wf = true) :
    Calls Try.prog 6 #[.agg (sMsg m ua uc), .int .i64 a1, .int .u8 a2, .int .i64 a3] w fun e w' => e = .returned (.bool true) ∧ Below w.heap.size w w' := by
  obtain ⟨y, rfl⟩ := u8_of a2 w2
  obtain ⟨q3, hq3, hq3b⟩ := and_mask a1 2 3 (by decide) (by decide)
  obtain ⟨ql, hql, hqlb⟩ := and_mask a3 16 65535 (by decide) (by decide)
  have HQ3 := uhid hq3
  have HQL := uhid hql
  clear hq3 hql w1 w2 w3
  have hM := MBox.new w m ua uc
  have hb0 : Below w.heap.size w (w.alloc (.cells (sMsg m ua uc) 29)) := (Below.refl _ _).alloc (Nat.le_refl _) _
  have HOKf := uhid (mok_few hI)
  have HIN := uhid hI
  obtain ⟨f, hf⟩ : ∃ f, fewS m = f := ⟨_, rfl⟩
  have fid : f.id.length = 12 := by rw [← hf]; exact hI.id
  have fho : f.host < 4294967296 := by rw [← hf]; exact hI.host
  rw [hf] at HOKf
  have HF := uhid hf
  obtain ⟨L0, hL0⟩ := msgL m ua uc
  obtain ⟨L, hL⟩ := msgL f ua uc
  have HL0 := uhid hL0
  have HL := uhid hL
  rw [hL0.eq] at hb0 hM ⊢
  have HM := uhid hM
  have HB0 := uhid hb0
  clear hM hb0 hI hf hL0 hL
  go_enter Try.func6, Try.ntmps6
  go_wp2_with fail
  obtain ⟨W, hW⟩ : ∃ W, w.alloc (.cells L0.toArray 29) = W := ⟨_, rfl⟩
  rw [hW] at HM HB0
  rw [hW]
  clear hW
  refine (stuShown_any W).mono ?_
  rintro e w1 ⟨rfl, hb1⟩
  have HM1 := uhid (HM.out.later hb1 HM.out.lt (Nat.le_refl _))
  have HB1 := uhid (HB0.out.trans (hb1.mono HB0.out.size))
  have HR1 := uhid (HM1.out.rowL HL0.out)
  clear hb1 HM HB0
  go_wp2_with (refine wpList_load_row rfl 29 _ rfl w.heap.size rfl 29 _ (0, 0) _ HR1.out Try.underlying29 rfl HL0.out.inf ?_)
  rw [← HL0.out.eq]
  refine (few_any m ua uc zs w1 (HIN.out.later HB1.out)).mono ?_
  rintro e w2 ⟨rfl, hb2⟩
  rw [HF.out]
  have hM2 := HM1.out.later hb2 HM1.out.lt (Nat.le_refl _)
  have HB2 := uhid (HB1.out.trans (hb2.mono HB1.out.size))
  have HR2 := uhid (hM2.rowL HL0.out)
  have hM3 := hM2.set f ua uc L HL.out
  have hb3 : Below w.heap.size w (w2.setRow w.heap.size L.toArray) := srow_below HB2.out _ (Nat.le_refl _) _
  obtain ⟨w3, hw3⟩ : ∃ w3, w2.setRow w.heap.size L.toArray = w3 := ⟨_, rfl⟩
  rw [hw3] at hM3 hb3
  have HM3 := uhid hM3
  have HB3 := uhid hb3
  have HW3 := uhid hw3
  have HR3 := uhid (hM3.rowL HL.out)
  have HOK3 := uhid (HOKf.out.later hb3)
  have hsz : Hid (L0.toArray.size = L.toArray.size) := uhid (HL0.out.sz.symm.trans HL.out.sz)
  clear hb2 hM2 hM3 hb3 hw3 HM1 HB1 HR1 HB2
  rw [HL.out.eq]
  go_wp2_with (first
    | (refine wpList_store_row rfl 29 (.tmp 4) (.tmp 23) rfl w.heap.size L.toArray rfl rfl 29 _ HR2.out HL.out.inf hsz.out HL.out.one ?_; rw [HW3.out])
    | refine wpList_load_row rfl 29 _ rfl w.heap.size rfl 29 _ (0, 0) _ HR3.out Try.underlying29 rfl HL.out.inf ?_)
  rw [← HL.out.eq]
  cases hr : rightS f with
  | true =>
    refine (sencode_yes f ua uc w3 HOK3.out hr fho fid).mono ?_
    rintro e w4 ⟨a4, n4, c4, rfl, hn4, hN4⟩
    have hlen : 28 ≤ (encS f).length := by unfold encS; rw [sFin_length, out_length f fid]; omega
    have hsm := encS_small f ((rightS_iff f).1 hr) fid
    obtain ⟨EE, hEE⟩ : ∃ EE, encS f = EE := ⟨_, rfl⟩
    rw [hEE] at hN4 hn4 hlen hsm
    rw [← hn4] at hlen hsm
    obtain ⟨g, rfl⟩ := hN4.some_ (by omega)
    have hown4 := own_base hN4.2 g rfl
    have HEE := uhid hEE
    have HG4 := uhid (newb_blk hN4 (by omega))
    have HP4 := uhid (hN4.at_ hn4.symm)
    have HB4 := uhid (HB3.out.trans (hN4.1.mono HB3.out.size))
    have HN4l := uhid hn4
    have hgw : w.heap.size ≤ g := by have := HB3.out.size; omega
    have hgl : g < w4.heap.size := hown4.2
    -- one byte more
    have hN0 := NewB.lit (Below.refl w4.heap.size w4) [] #[] rfl (by simp)
    obtain ⟨a6, c6, W6, hap6, hN6⟩ := hN0.many (some ⟨g, 0, none⟩) n4 c4 EE (HP4.out.1.later ((Below.refl _ _).alloc (Nat.le_refl _) _)) (fun e => by cases e) (by simp; omega)
    have hap6' : (Builtin.append_ #[32, 32] 32 #[.slice (some ⟨w4.heap.size, 0, none⟩) 0 0, .slice (some ⟨g, 0, none⟩) n4 c4]).run Try.prog (w4.alloc (.cells #[] 5)) = .ok (.slice a6 n4 c6) W6 := by simpa using hap6
    have hN6' : NewB w4 W6 (.slice a6 n4 c6) EE := by simpa using hN6
    obtain ⟨a7, c7, W7, hap7, hN7⟩ := hN6'.one hn4.symm y (by omega)
    have HAP6 := uhid hap6'
    have HAP7 := uhid hap7
    have hl7 : (EE ++ [y]).length = n4 + 1 := by rw [List.length_append, ← hn4]; rfl
    have HP7 := uhid (hN7.at_ hl7)
    have HB7 := uhid (HB4.out.trans (hN7.1.mono HB4.out.size))
    have HP47 := uhid (HP4.out.1.later hN7.1)
    have HP4c := uhid HP4.out.2
    have HG7 := uhid (blk_later HG4.out hN7.1)
    have hg7 : g < W7.heap.size := Nat.lt_of_lt_of_le hgl hN7.1.size
    have hdm := last_more f fid y
    rw [hEE] at hdm
    have HDM := uhid hdm
    have hbv : bv y = .int .u8 (y.toNat : Int) := rfl
    rw [hbv] at HAP7
    clear hN0 hap6 hN6 hap6' hN6' hap7 hN7 hN4 hn4 hEE hdm hown4 HP4 HB4 hbv hl7 HB3 HR3 HM3
    go_wp2_with (first
      | (at_builtin; refine wpList_append_run rfl (.tmp 42) (.tmp 43) 32 rfl _ _ _ _ rfl rfl HAP6.out ?_)
      | (at_builtin; refine wpList_append_run rfl (.tmp 44) (.tmp 46) 32 rfl _ _ _ _ rfl rfl HAP7.out ?_))
    refine (sdecode_any a7 (n4 + 1) c7 (EE ++ [y]) W7 HP7.out.1 HP7.out.2.1 HP7.out.2.2.1 HP7.out.2.2.2 (by omega)).mono ?_
    intro e w8 hE
    rw [HDM.out] at hE
    obtain ⟨rfl, hb8⟩ := hE
    obtain ⟨L8, hL8⟩ := msgL (sZero 0 (List.replicate 12 0)) none 0
    have hrowP := heap_alloc_new w8 (.cells #[.int .i64 0, .int .u8 0, .int .u8 0, .int .u8 0, .int .u8 0, .int .u8 0, .int .u8 0, .int .u8 0, .int .u8 0, .int .u8 0, .int .u8 0, .int .u8 0, .int .u8 0, .int .u32 0, .int .i64 0, .string ⟨#[]⟩, .int .i64 0, .string ⟨#[]⟩, .slice none 0 0] 29)
    have hrowQ := setRow_heap (w8.alloc (.cells #[.int .i64 0, .int .u8 0, .int .u8 0, .int .u8 0, .int .u8 0, .int .u8 0, .int .u8 0, .int .u8 0, .int .u8 0, .int .u8 0, .int .u8 0, .int .u8 0, .int .u8 0, .int .u32 0, .int .i64 0, .string ⟨#[]⟩, .int .i64 0, .string ⟨#[]⟩, .slice none 0 0] 29)) w8.heap.size _ L8.toArray _ _ hrowP
    have hbQ : Below w8.heap.size w8 ((w8.alloc (.cells #[.int .i64 0, .int .u8 0, .int .u8 0, .int .u8 0, .int .u8 0, .int .u8 0, .int .u8 0, .int .u8 0, .int .u8 0, .int .u8 0, .int .u8 0, .int .u8 0, .int .u8 0, .int .u32 0, .int .i64 0, .string ⟨#[]⟩, .int .i64 0, .string ⟨#[]⟩, .slice none 0 0] 29)).setRow w8.heap.size L8.toArray) := srow_below ((Below.refl _ _).alloc (Nat.le_refl _) _) _ (Nat.le_refl _) _
    obtain ⟨w9, hW9⟩ : ∃ w9, (w8.alloc (.cells #[.int .i64 0, .int .u8 0, .int .u8 0, .int .u8 0, .int .u8 0, .int .u8 0, .int .u8 0, .int .u8 0, .int .u8 0, .int .u8 0, .int .u8 0, .int .u8 0, .int .u8 0, .int .u32 0, .int .i64 0, .string ⟨#[]⟩, .int .i64 0, .string ⟨#[]⟩, .slice none 0 0] 29)).setRow w8.heap.size L8.toArray = w9 := ⟨_, rfl⟩
    rw [hW9] at hrowQ hbQ
    obtain ⟨g8, hg8⟩ : ∃ g8, w8.heap.size = g8 := ⟨_, rfl⟩
    rw [hg8] at hrowP hrowQ hW9
    have HROW8 := uhid hrowP
    have HW9 := uhid hW9
    have HL8 := uhid hL8
    have hb79 : Below W7.heap.size W7 w9 := hb8.trans (hbQ.mono hb8.size)
    have HB9 := uhid (HB7.out.trans (hb79.mono HB7.out.size))
    have HP9 := uhid (HP47.out.later hb79)
    have HG9 := uhid (blk_later HG7.out hb79)
    have hg9 : g < w9.heap.size := Nat.lt_of_lt_of_le hg7 hb79.size
    rw [HL8.out.eq]
    clear hb8 hbQ hb79 hrowP hrowQ hW9 hL8 HB7 HP47 HP7 HAP6 HAP7 HDM
    -- how much is cut
    obtain ⟨ql2, hql2⟩ : ∃ ql2, ql % n4 = ql2 := ⟨_, rfl⟩
    have hql2b : ql2 < n4 := by rw [← hql2]; exact Nat.mod_lt _ (by omega)
    have hq := HQL.out
    have hrem : ((ql : Int)).tmod (n4 : Int) = (ql2 : Int) := by rw [Int.tmod_eq_emod_of_nonneg (by omega)]; rw [← hql2]; rfl
    have hn0 : ¬ (n4 : Int) = 0 := by omega
    obtain ⟨ns, hns⟩ : ∃ ns, n4 - (1 + ql2) = ns := ⟨_, rfl⟩
    have hns2 : (n4 : Int) - (1 + (ql2 : Int)) = (ns : Int) := by omega
    have hnsl : ns < n4 := by omega
    have hnc4 := HP4c.out.1
    have hcm4 := HP4c.out.2.1
    unfold maxLen at hcm4
    have hnsc : ns < c4 := by omega
    have hn28 : ¬ (n4 : Int) < 28 := by omega
    clear hql2
    go_wp2_with (refine wpList_store_row rfl 29 (.tmp 12) (.tmp 49) rfl g8 L8.toArray rfl rfl 29 _ HROW8.out HL8.out.inf HL8.out.sz HL8.out.one ?_; rw [HW9.out])
    have HQ9 := HQ3.out
    obtain ⟨V, hV⟩ : ∃ V, w9.drew = V := ⟨_, rfl⟩
    have hdr : Below w9.heap.size w9 V := by rw [← hV]; exact (Below.refl _ _).drew
    have HBV := uhid (HB9.out.trans (hdr.mono HB9.out.size))
    have HPV := uhid (HP9.out.later hdr)
    have HGV := uhid (blk_later HG9.out hdr)
    have hgV : g < V.heap.size := Nat.lt_of_lt_of_le hg9 hdr.size
    by_cases h28 : ns < 28
    · have j0 : ¬ (28 : Int) ≤ (ns : Int) := by omega
      have hd : decS (EE.take ns) = none := by
        cases hd : decS (EE.take ns) with
        | none => rfl
        | some m' =>
          obtain ⟨_, h2, h3, _⟩ := (decS_iff _ m').1 hd
          have hl := congrArg List.length h2
          rw [List.length_take] at hl
          have : 28 ≤ (encS m').length := by unfold encS; rw [sFin_length, out_length m' h3]; omega
          omega
      refine wp_region_sched' (G := Grows) (by kernel_rfl) Grows.refl Grows.trans (by kernel_rfl) [(0, true), (1, true), (2, true), (3, true), (4, true), (5, true), (6, true), (7, true), (8, true), (11, true), (12, true), (13, true), (14, true), (15, true), (16, true), (17, true), (18, true), (19, true), (20, true), (21, true), (22, true), (23, true), (24, true), (25, true), (26, true), (27, true), (28, true), (29, true), (30, true), (31, true), (32, true), (33, true), (34, true), (35, true), (36, true), (37, true), (38, true), (39, true), (40, true), (41, true), (42, true), (43, true), (44, true), (9, false), (10, true), (45, true), (46, true), (47, true)] rfl (by kernel_rfl) ?_
      intro KK hKK
      rw [hV]
      clear hV hdr
      iterate 4 (refine sched_take rfl (by rfl) (v := ?_) ?_ ?_; rotate_left; (intro w' hw'; clear hw'; go_simp; with_reducible rfl); go_simp)
      iterate 42 (refine sched_skip rfl (by rfl) ?_; go_simp)
      iterate 2 (refine sched_take rfl (by rfl) (v := ?_) ?_ ?_; rotate_left; (intro w' hw'; clear hw'; go_simp; with_reducible rfl); go_simp)
      refine sched_done hKK ?_
      clear hKK
      go_wp2_with fail
      have hPs := HPV.out.cut (show ns ≤ n4 by omega)
      refine (sdecode_any (some ⟨g, 0, none⟩) ns c4 (EE.take ns) V hPs (by omega) (by unfold maxLen; omega) (fun e => by cases e) (by omega)).mono ?_
      intro e w10 hE
      rw [hd] at hE
      obtain ⟨rfl, hb10⟩ := hE
      obtain ⟨L10, hL10⟩ := msgL (sZero 0 (List.replicate 12 0)) none 0
      have hrowP := heap_alloc_new w10 (.cells #[.int .i64 0, .int .u8 0, .int .u8 0, .int .u8 0, .int .u8 0, .int .u8 0, .int .u8 0, .int .u8 0, .int .u8 0, .int .u8 0, .int .u8 0, .int .u8 0, .int .u8 0, .int .u32 0, .int .i64 0, .string ⟨#[]⟩, .int .i64 0, .string ⟨#[]⟩, .slice none 0 0] 29)
      have hrowQ := setRow_heap (w10.alloc (.cells #[.int .i64 0, .int .u8 0, .int .u8 0, .int .u8 0, .int .u8 0, .int .u8 0, .int .u8 0, .int .u8 0, .int .u8 0, .int .u8 0, .int .u8 0, .int .u8 0, .int .u8 0, .int .u32 0, .int .i64 0, .string ⟨#[]⟩, .int .i64 0, .string ⟨#[]⟩, .slice none 0 0] 29)) w10.heap.size _ L10.toArray _ _ hrowP
      have hbQ : Below w10.heap.size w10 ((w10.alloc (.cells #[.int .i64 0, .int .u8 0, .int .u8 0, .int .u8 0, .int .u8 0, .int .u8 0, .int .u8 0, .int .u8 0, .int .u8 0, .int .u8 0, .int .u8 0, .int .u8 0, .int .u8 0, .int .u32 0, .int .i64 0, .string ⟨#[]⟩, .int .i64 0, .string ⟨#[]⟩, .slice none 0 0] 29)).setRow w10.heap.size L10.toArray) := srow_below ((Below.refl _ _).alloc (Nat.le_refl _) _) _ (Nat.le_refl _) _
      obtain ⟨w11, hW11⟩ : ∃ w11, (w10.alloc (.cells #[.int .i64 0, .int .u8 0, .int .u8 0, .int .u8 0, .int .u8 0, .int .u8 0, .int .u8 0, .int .u8 0, .int .u8 0, .int .u8 0, .int .u8 0, .int .u8 0, .int .u8 0, .int .u32 0, .int .i64 0, .string ⟨#[]⟩, .int .i64 0, .string ⟨#[]⟩, .slice none 0 0] 29)).setRow w10.heap.size L10.toArray = w11 := ⟨_, rfl⟩
      rw [hW11] at hrowQ hbQ
      obtain ⟨g10, hg10⟩ : ∃ g10, w10.heap.size = g10 := ⟨_, rfl⟩
      rw [hg10] at hrowP hrowQ hW11
      have HROW10 := uhid hrowP
      have HW11 := uhid hW11
      have HL10 := uhid hL10
      have hb911 : Below V.heap.size V w11 := hb10.trans (hbQ.mono hb10.size)
      have HB11 := uhid (HBV.out.trans (hb911.mono HBV.out.size))
      have HP11 := uhid (HPV.out.later hb911)
      obtain ⟨cur11, hcur11⟩ := blk_later HGV.out hb911
      rw [HL10.out.eq]
      clear hPs hb10 hbQ hb911 hrowP hrowQ hW11 hL10 HBV HPV
      -- one of the last bytes as another one
      obtain ⟨kk, hkk⟩ : ∃ kk, n4 - 1 - q3 = kk := ⟨_, rfl⟩
      have hkb : q3 < 4 := hq3b
      have hkI : (n4 : Int) - 1 - (q3 : Int) = (kk : Int) := by omega
      have hkn : kk < n4 := by omega
      have hkl : n4 - 4 ≤ kk := by omega
      obtain ⟨dd, hdd⟩ : ∃ dd, at8 EE kk = dd := ⟨_, rfl⟩
      have hxx := xor_val8 dd y
      obtain ⟨zz, hzz⟩ : ∃ zz, dd ^^^ y = zz := ⟨_, rfl⟩
      rw [hzz] at hxx
      have qk : w11.cell? ⟨g, kk, none⟩ = some (.int .u8 (dd.toNat : Int)) := by
        rcases HP11.out.2 with h0 | ⟨b', off', e, hc⟩
        · omega
        · cases e
          have := hc kk hkn
          rw [Nat.zero_add, hdd] at this
          exact this
      have fk : w11.frozen? ⟨g, kk, none⟩ = false := frozen_of_row w11 g kk _ _ hcur11
      have hPk := byt_setAt HP11.out hkn zz
      have hbk : Below w.heap.size w (w11.setCell ⟨g, kk, none⟩ (.int .u8 (zz.toNat : Int))) := HB11.out.setCell (p := ⟨g, kk, none⟩) hgw _
      obtain ⟨w12, hw12⟩ : ∃ w12, w11.setCell ⟨g, kk, none⟩ (.int .u8 (zz.toNat : Int)) = w12 := ⟨_, rfl⟩
      rw [hw12] at hPk hbk
      have HP12 := uhid hPk
      have HB12 := uhid hbk
      have HW12 := uhid hw12
      have hset : y = 0 → EE.set kk zz = EE := fun e => by
        have hEl := HN4l.out
        rw [← hzz, e, UInt8.xor_zero, ← hdd, at8_get EE kk (by omega)]
        exact List.set_getElem_self _
      have hne : y ≠ 0 → decS (EE.set kk zz) = none := fun e => by
        have hEl := HN4l.out
        have := last_same f kk (by rw [HEE.out]; omega) (by rw [HEE.out]; omega) (by rw [HEE.out]; omega) y e
        rw [HEE.out, hdd, hzz] at this
        exact this
      have hok : decS EE = some f := by
        rw [← HEE.out]
        exact decS_encS f ((rightS_iff f).1 hr) fid fho
      have HSET := uhid hset
      have HNE := uhid hne
      have HOKD := uhid hok
      clear hcur11 hzz hkk hdd hPk hbk hw12 hset hne hok hd
      go_wp2_with (refine wpList_store_row rfl 29 (.tmp 16) (.tmp 113) rfl g10 L10.toArray rfl rfl 29 _ HROW10.out HL10.out.inf HL10.out.sz HL10.out.one ?_; rw [HW11.out])
      rw [HW12.out]
      refine (sdecode_any (some ⟨g, 0, none⟩) n4 c4 (EE.set kk zz) w12 HP12.out hnc4 (by unfold maxLen; omega) (fun e => by cases e) (by omega)).mono ?_
      intro e w13 hE
      by_cases hy : y = 0
      · have hs := HSET.out hy
        rw [hs, HOKD.out] at hE
        have hy0 : (y.toNat : Int) = 0 := by rw [hy]; rfl
        obtain ⟨ub3, uc3, rfl, hb13, _, _⟩ := hE
        obtain ⟨L13, hL13⟩ := msgL f ub3 uc3
        have hrowP := heap_alloc_new w13 (.cells #[.int .i64 0, .int .u8 0, .int .u8 0, .int .u8 0, .int .u8 0, .int .u8 0, .int .u8 0, .int .u8 0, .int .u8 0, .int .u8 0, .int .u8 0, .int .u8 0, .int .u8 0, .int .u32 0, .int .i64 0, .string ⟨#[]⟩, .int .i64 0, .string ⟨#[]⟩, .slice none 0 0] 29)
        have hrowQ := setRow_heap (w13.alloc (.cells #[.int .i64 0, .int .u8 0, .int .u8 0, .int .u8 0, .int .u8 0, .int .u8 0, .int .u8 0, .int .u8 0, .int .u8 0, .int .u8 0, .int .u8 0, .int .u8 0, .int .u8 0, .int .u32 0, .int .i64 0, .string ⟨#[]⟩, .int .i64 0, .string ⟨#[]⟩, .slice none 0 0] 29)) w13.heap.size _ L13.toArray _ _ hrowP
        have hbQ : Below w13.heap.size w13 ((w13.alloc (.cells #[.int .i64 0, .int .u8 0, .int .u8 0, .int .u8 0, .int .u8 0, .int .u8 0, .int .u8 0, .int .u8 0, .int .u8 0, .int .u8 0, .int .u8 0, .int .u8 0, .int .u8 0, .int .u32 0, .int .i64 0, .string ⟨#[]⟩, .int .i64 0, .string ⟨#[]⟩, .slice none 0 0] 29)).setRow w13.heap.size L13.toArray) := srow_below ((Below.refl _ _).alloc (Nat.le_refl _) _) _ (Nat.le_refl _) _
        obtain ⟨w14, hW14⟩ : ∃ w14, (w13.alloc (.cells #[.int .i64 0, .int .u8 0, .int .u8 0, .int .u8 0, .int .u8 0, .int .u8 0, .int .u8 0, .int .u8 0, .int .u8 0, .int .u8 0, .int .u8 0, .int .u8 0, .int .u8 0, .int .u32 0, .int .i64 0, .string ⟨#[]⟩, .int .i64 0, .string ⟨#[]⟩, .slice none 0 0] 29)).setRow w13.heap.size L13.toArray = w14 := ⟨_, rfl⟩
        rw [hW14] at hrowQ hbQ
        obtain ⟨g13, hg13⟩ : ∃ g13, w13.heap.size = g13 := ⟨_, rfl⟩
        rw [hg13] at hrowP hrowQ hW14
        have HROW13 := uhid hrowP
        have HW14 := uhid hW14
        have HL13 := uhid hL13
        have hb1214 : Below w12.heap.size w12 w14 := hb13.trans (hbQ.mono hb13.size)
        have HB14 := uhid (HB12.out.trans (hb1214.mono HB12.out.size))
        rw [HL13.out.eq]
        clear hb13 hbQ hb1214 hrowP hrowQ hW14 hL13 hs
        go_wp2_with (refine wpList_store_row rfl 29 (.tmp 19) (.tmp 133) rfl g13 L13.toArray rfl rfl 29 _ HROW13.out HL13.out.inf HL13.out.sz HL13.out.one ?_; rw [HW14.out])
        go_ret
        exact ⟨rfl, HB14.out⟩
      · rw [HNE.out hy] at hE
        have hy0 : ¬ (y.toNat : Int) = 0 := fun e => hy (UInt8.toNat_inj.1 (by simpa using e))
        obtain ⟨rfl, hb13⟩ := hE
        obtain ⟨L13, hL13⟩ := msgL (sZero 0 (List.replicate 12 0)) none 0
        have hrowP := heap_alloc_new w13 (.cells #[.int .i64 0, .int .u8 0, .int .u8 0, .int .u8 0, .int .u8 0, .int .u8 0, .int .u8 0, .int .u8 0, .int .u8 0, .int .u8 0, .int .u8 0, .int .u8 0, .int .u8 0, .int .u32 0, .int .i64 0, .string ⟨#[]⟩, .int .i64 0, .string ⟨#[]⟩, .slice none 0 0] 29)
        have hrowQ := setRow_heap (w13.alloc (.cells #[.int .i64 0, .int .u8 0, .int .u8 0, .int .u8 0, .int .u8 0, .int .u8 0, .int .u8 0, .int .u8 0, .int .u8 0, .int .u8 0, .int .u8 0, .int .u8 0, .int .u8 0, .int .u32 0, .int .i64 0, .string ⟨#[]⟩, .int .i64 0, .string ⟨#[]⟩, .slice none 0 0] 29)) w13.heap.size _ L13.toArray _ _ hrowP
        have hbQ : Below w13.heap.size w13 ((w13.alloc (.cells #[.int .i64 0, .int .u8 0, .int .u8 0, .int .u8 0, .int .u8 0, .int .u8 0, .int .u8 0, .int .u8 0, .int .u8 0, .int .u8 0, .int .u8 0, .int .u8 0, .int .u8 0, .int .u32 0, .int .i64 0, .string ⟨#[]⟩, .int .i64 0, .string ⟨#[]⟩, .slice none 0 0] 29)).setRow w13.heap.size L13.toArray) := srow_below ((Below.refl _ _).alloc (Nat.le_refl _) _) _ (Nat.le_refl _) _
        obtain ⟨w14, hW14⟩ : ∃ w14, (w13.alloc (.cells #[.int .i64 0, .int .u8 0, .int .u8 0, .int .u8 0, .int .u8 0, .int .u8 0, .int .u8 0, .int .u8 0, .int .u8 0, .int .u8 0, .int .u8 0, .int .u8 0, .int .u8 0, .int .u32 0, .int .i64 0, .string ⟨#[]⟩, .int .i64 0, .string ⟨#[]⟩, .slice none 0 0] 29)).setRow w13.heap.size L13.toArray = w14 := ⟨_, rfl⟩
        rw [hW14] at hrowQ hbQ
        obtain ⟨g13, hg13⟩ : ∃ g13, w13.heap.size = g13 := ⟨_, rfl⟩
        rw [hg13] at hrowP hrowQ hW14
        have HROW13 := uhid hrowP
        have HW14 := uhid hW14
        have HL13 := uhid hL13
        have hb1214 : Below w12.heap.size w12 w14 := hb13.trans (hbQ.mono hb13.size)
        have HB14 := uhid (HB12.out.trans (hb1214.mono HB12.out.size))
        rw [HL13.out.eq]
        clear hb13 hbQ hb1214 hrowP hrowQ hW14 hL13
        go_wp2_with (refine wpList_store_row rfl 29 (.tmp 19) (.tmp 133) rfl g13 L13.toArray rfl rfl 29 _ HROW13.out HL13.out.inf HL13.out.sz HL13.out.one ?_; rw [HW14.out])
        go_ret
        refine ⟨?_, HB14.out⟩
        show Ending.returned (.bool (!((y.toNat : Int) == 0))) = _
        rw [beq_eq_false_iff_ne.2 hy0]
        rfl
    · have j0 : (28 : Int) ≤ (ns : Int) := by omega
      have m8 : IntKind.i64.wrap ((ns : Int) - 8) = ((ns - 8 : Nat) : Int) := by rw [IntKind.wrap_i64]; omega
      have m4 : IntKind.i64.wrap ((ns : Int) - 4) = ((ns - 4 : Nat) : Int) := by rw [IntKind.wrap_i64]; omega
      have m3 : IntKind.i64.wrap ((ns : Int) - 3) = ((ns - 3 : Nat) : Int) := by rw [IntKind.wrap_i64]; omega
      have m2 : IntKind.i64.wrap ((ns : Int) - 2) = ((ns - 2 : Nat) : Int) := by rw [IntKind.wrap_i64]; omega
      have m1 : IntKind.i64.wrap ((ns : Int) - 1) = ((ns - 1 : Nat) : Int) := by rw [IntKind.wrap_i64]; omega
      obtain ⟨p8, hp8⟩ : ∃ p8, ns - 8 = p8 := ⟨_, rfl⟩
      obtain ⟨p4, hp4⟩ : ∃ p4, ns - 4 = p4 := ⟨_, rfl⟩
      obtain ⟨p3, hp3⟩ : ∃ p3, ns - 3 = p3 := ⟨_, rfl⟩
      obtain ⟨p2, hp2⟩ : ∃ p2, ns - 2 = p2 := ⟨_, rfl⟩
      obtain ⟨p1, hp1⟩ : ∃ p1, ns - 1 = p1 := ⟨_, rfl⟩
      rw [hp8] at m8
      rw [hp4] at m4
      rw [hp3] at m3
      rw [hp2] at m2
      rw [hp1] at m1
      have l8 : p8 ≤ c4 := by omega
      have l8c : ¬ c4 = p8 := by omega
      have l8n : p8 < ns := by omega
      have l4 : p4 < ns := by omega
      have l3 : p3 < ns := by omega
      have l2 : p2 < ns := by omega
      have l1 : p1 < ns := by omega
      obtain ⟨d4, hd4⟩ : ∃ d, (at8 EE p4).toNat = d := ⟨_, rfl⟩
      obtain ⟨d3, hd3⟩ : ∃ d, (at8 EE p3).toNat = d := ⟨_, rfl⟩
      obtain ⟨d2, hd2⟩ : ∃ d, (at8 EE p2).toNat = d := ⟨_, rfl⟩
      obtain ⟨d1, hd1⟩ : ∃ d, (at8 EE p1).toNat = d := ⟨_, rfl⟩
      have b4 : d4 < 256 := by rw [← hd4]; exact (at8 EE p4).toNat_lt
      have b3 : d3 < 256 := by rw [← hd3]; exact (at8 EE p3).toNat_lt
      have b2 : d2 < 256 := by rw [← hd2]; exact (at8 EE p2).toNat_lt
      have b1 : d1 < 256 := by rw [← hd1]; exact (at8 EE p1).toNat_lt
      have hor := or_four d4 d3 d2 d1 b4 b3 b2 b1
      obtain ⟨X, hX⟩ : ∃ X, d4 * 16777216 + d3 * 65536 + d2 * 256 + d1 = X := ⟨_, rfl⟩
      rw [hX] at hor
      obtain ⟨cr, hcr⟩ : ∃ cr : Nat, (crcOf (EE.take p8)).toNat = cr := ⟨_, rfl⟩
      have hcr9 : cr < 4294967296 := by rw [← hcr]; exact (crcOf (EE.take p8)).isLt
      have hxo : bits .xor .u32 (cr : Int) 1398035790 = ((cr ^^^ 1398035790 : Nat) : Int) := xorU cr 1398035790 hcr9 (by decide)
      obtain ⟨Y, hY⟩ : ∃ Y, cr ^^^ 1398035790 = Y := ⟨_, rfl⟩
      rw [hY] at hxo
      have hXY : ∀ m', decS (EE.take ns) = some m' → X = Y := fun m' hd => by
        have hEl := HN4l.out
        have hl : (EE.take ns).length = ns := by rw [List.length_take]; omega
        have h1 := last_crc (EE.take ns) m' hd (by omega)
        rw [hl, hp4, hp8, List.take_take, Nat.min_eq_left (by omega), hcr, hY, getV_four _ _ (by omega), at8_take _ _ _ (by omega), at8_take _ _ _ (by omega), at8_take _ _ _ (by omega), at8_take _ _ _ (by omega),
          show p4 + 1 = p3 by omega, show p4 + 2 = p2 by omega, show p4 + 3 = p1 by omega, hd4, hd3, hd2, hd1, hX] at h1
        exact h1
      have hq : ∀ w', Below V.heap.size V w' → w'.cell? ⟨g, p4, none⟩ = some (.int .u8 (d4 : Int)) ∧ w'.cell? ⟨g, p3, none⟩ = some (.int .u8 (d3 : Int)) ∧ w'.cell? ⟨g, p2, none⟩ = some (.int .u8 (d2 : Int)) ∧ w'.cell? ⟨g, p1, none⟩ = some (.int .u8 (d1 : Int)) := fun w' hw' => by
        have hB := HPV.out.later hw'
        rcases hB.2 with h0 | ⟨b', off', e, hc⟩
        · omega
        · cases e
          have e4 := hc p4 (by omega)
          have e3 := hc p3 (by omega)
          have e2 := hc p2 (by omega)
          have e1 := hc p1 (by omega)
          rw [Nat.zero_add] at e4 e3 e2 e1
          rw [hd4] at e4
          rw [hd3] at e3
          rw [hd2] at e2
          rw [hd1] at e1
          exact ⟨e4, e3, e2, e1⟩
      have HQ := uhid hq
      have HCR := uhid hcr
      have hpn : p8 ≤ n4 := by omega
      cases hd : decS (EE.take ns) with
      | none =>
        clear hq hd4 hd3 hd2 hd1 hp8 hp4 hp3 hp2 hp1 hX hcr hY hXY
        refine wp_region_sched' (G := Grows) (by kernel_rfl) Grows.refl Grows.trans (by kernel_rfl) [(0, true), (1, true), (2, true), (3, true), (4, true), (5, true), (6, true), (7, true), (8, true), (11, true), (12, true), (13, true), (14, true), (15, true), (16, true), (17, true), (18, true), (19, true), (20, true), (21, true), (22, true), (23, true), (24, true), (25, true), (26, true), (27, true), (28, true), (29, true), (30, true), (31, true), (32, true), (33, true), (34, true), (35, true), (36, true), (37, true), (38, true), (39, true), (40, true), (41, true), (42, true), (43, true), (44, true), (9, false), (10, true), (45, true), (46, true), (47, true)] rfl (by kernel_rfl) ?_
        intro KK hKK
        rw [hV]
        clear hV hdr
        iterate 43 (refine sched_take rfl (by rfl) (v := ?_) ?_ ?_; rotate_left; (intro w' hw'; obtain ⟨q4, q3, q2, q1⟩ := HQ.out w' hw'; clear hw'; go_simp; with_reducible rfl); go_simp)
        refine sched_call (f := 19) (args := #[.slice (some ⟨g, 0, none⟩) p8 c4]) rfl (by rfl) (by go_simp) ?_
        refine (crc_any (some ⟨g, 0, none⟩) p8 c4 (EE.take p8) V (HPV.out.cut hpn) (by unfold maxLen; omega)).mono ?_
        rintro e V' ⟨rfl, rfl⟩
        refine ⟨_, rfl, Grows.refl _, ?_⟩
        rw [HCR.out]
        go_simp
        iterate 4 (refine sched_take rfl (by rfl) (v := ?_) ?_ ?_; rotate_left; (intro w' hw'; clear hw'; go_simp; with_reducible rfl); go_simp)
        refine sched_done hKK ?_
        clear hKK
        go_wp2_with fail
        have hPs := HPV.out.cut (show ns ≤ n4 by omega)
        refine (sdecode_any (some ⟨g, 0, none⟩) ns c4 (EE.take ns) V' hPs (by omega) (by unfold maxLen; omega) (fun e => by cases e) (by omega)).mono ?_
        intro e w10 hE
        rw [hd] at hE
        obtain ⟨rfl, hb10⟩ := hE
        obtain ⟨L10, hL10⟩ := msgL (sZero 0 (List.replicate 12 0)) none 0
        have hrowP := heap_alloc_new w10 (.cells #[.int .i64 0, .int .u8 0, .int .u8 0, .int .u8 0, .int .u8 0, .int .u8 0, .int .u8 0, .int .u8 0, .int .u8 0, .int .u8 0, .int .u8 0, .int .u8 0, .int .u8 0, .int .u32 0, .int .i64 0, .string ⟨#[]⟩, .int .i64 0, .string ⟨#[]⟩, .slice none 0 0] 29)
        have hrowQ := setRow_heap (w10.alloc (.cells #[.int .i64 0, .int .u8 0, .int .u8 0, .int .u8 0, .int .u8 0, .int .u8 0, .int .u8 0, .int .u8 0, .int .u8 0, .int .u8 0, .int .u8 0, .int .u8 0, .int .u8 0, .int .u32 0, .int .i64 0, .string ⟨#[]⟩, .int .i64 0, .string ⟨#[]⟩, .slice none 0 0] 29)) w10.heap.size _ L10.toArray _ _ hrowP
        have hbQ : Below w10.heap.size w10 ((w10.alloc (.cells #[.int .i64 0, .int .u8 0, .int .u8 0, .int .u8 0, .int .u8 0, .int .u8 0, .int .u8 0, .int .u8 0, .int .u8 0, .int .u8 0, .int .u8 0, .int .u8 0, .int .u8 0, .int .u32 0, .int .i64 0, .string ⟨#[]⟩, .int .i64 0, .string ⟨#[]⟩, .slice none 0 0] 29)).setRow w10.heap.size L10.toArray) := srow_below ((Below.refl _ _).alloc (Nat.le_refl _) _) _ (Nat.le_refl _) _
        obtain ⟨w11, hW11⟩ : ∃ w11, (w10.alloc (.cells #[.int .i64 0, .int .u8 0, .int .u8 0, .int .u8 0, .int .u8 0, .int .u8 0, .int .u8 0, .int .u8 0, .int .u8 0, .int .u8 0, .int .u8 0, .int .u8 0, .int .u8 0, .int .u32 0, .int .i64 0, .string ⟨#[]⟩, .int .i64 0, .string ⟨#[]⟩, .slice none 0 0] 29)).setRow w10.heap.size L10.toArray = w11 := ⟨_, rfl⟩
        rw [hW11] at hrowQ hbQ
        obtain ⟨g10, hg10⟩ : ∃ g10, w10.heap.size = g10 := ⟨_, rfl⟩
        rw [hg10] at hrowP hrowQ hW11
        have HROW10 := uhid hrowP
        have HW11 := uhid hW11
        have HL10 := uhid hL10
        have hb911 : Below V'.heap.size V' w11 := hb10.trans (hbQ.mono hb10.size)
        have HB11 := uhid (HBV.out.trans (hb911.mono HBV.out.size))
        have HP11 := uhid (HPV.out.later hb911)
        obtain ⟨cur11, hcur11⟩ := blk_later HGV.out hb911
        rw [HL10.out.eq]
        clear hPs hb10 hbQ hb911 hrowP hrowQ hW11 hL10 HBV HPV
        -- one of the last bytes as another one
        obtain ⟨kk, hkk⟩ : ∃ kk, n4 - 1 - q3 = kk := ⟨_, rfl⟩
        have hkb : q3 < 4 := hq3b
        have hkI : (n4 : Int) - 1 - (q3 : Int) = (kk : Int) := by omega
        have hkn : kk < n4 := by omega
        have hkl : n4 - 4 ≤ kk := by omega
        obtain ⟨dd, hdd⟩ : ∃ dd, at8 EE kk = dd := ⟨_, rfl⟩
        have hxx := xor_val8 dd y
        obtain ⟨zz, hzz⟩ : ∃ zz, dd ^^^ y = zz := ⟨_, rfl⟩
        rw [hzz] at hxx
        have qk : w11.cell? ⟨g, kk, none⟩ = some (.int .u8 (dd.toNat : Int)) := by
          rcases HP11.out.2 with h0 | ⟨b', off', e, hc⟩
          · omega
          · cases e
            have := hc kk hkn
            rw [Nat.zero_add, hdd] at this
            exact this
        have fk : w11.frozen? ⟨g, kk, none⟩ = false := frozen_of_row w11 g kk _ _ hcur11
        have hPk := byt_setAt HP11.out hkn zz
        have hbk : Below w.heap.size w (w11.setCell ⟨g, kk, none⟩ (.int .u8 (zz.toNat : Int))) := HB11.out.setCell (p := ⟨g, kk, none⟩) hgw _
        obtain ⟨w12, hw12⟩ : ∃ w12, w11.setCell ⟨g, kk, none⟩ (.int .u8 (zz.toNat : Int)) = w12 := ⟨_, rfl⟩
        rw [hw12] at hPk hbk
        have HP12 := uhid hPk
        have HB12 := uhid hbk
        have HW12 := uhid hw12
        have hset : y = 0 → EE.set kk zz = EE := fun e => by
          have hEl := HN4l.out
          rw [← hzz, e, UInt8.xor_zero, ← hdd, at8_get EE kk (by omega)]
          exact List.set_getElem_self _
        have hne : y ≠ 0 → decS (EE.set kk zz) = none := fun e => by
          have hEl := HN4l.out
          have := last_same f kk (by rw [HEE.out]; omega) (by rw [HEE.out]; omega) (by rw [HEE.out]; omega) y e
          rw [HEE.out, hdd, hzz] at this
          exact this
        have hok : decS EE = some f := by
          rw [← HEE.out]
          exact decS_encS f ((rightS_iff f).1 hr) fid fho
        have HSET := uhid hset
        have HNE := uhid hne
        have HOKD := uhid hok
        clear hcur11 hzz hkk hdd hPk hbk hw12 hset hne hok hd
        go_wp2_with (refine wpList_store_row rfl 29 (.tmp 16) (.tmp 113) rfl g10 L10.toArray rfl rfl 29 _ HROW10.out HL10.out.inf HL10.out.sz HL10.out.one ?_; rw [HW11.out])
        rw [HW12.out]
        refine (sdecode_any (some ⟨g, 0, none⟩) n4 c4 (EE.set kk zz) w12 HP12.out hnc4 (by unfold maxLen; omega) (fun e => by cases e) (by omega)).mono ?_
        intro e w13 hE
        by_cases hy : y = 0
        · have hs := HSET.out hy
          rw [hs, HOKD.out] at hE
          have hy0 : (y.toNat : Int) = 0 := by rw [hy]; rfl
          obtain ⟨ub3, uc3, rfl, hb13, _, _⟩ := hE
          obtain ⟨L13, hL13⟩ := msgL f ub3 uc3
          have hrowP := heap_alloc_new w13 (.cells #[.int .i64 0, .int .u8 0, .int .u8 0, .int .u8 0, .int .u8 0, .int .u8 0, .int .u8 0, .int .u8 0, .int .u8 0, .int .u8 0, .int .u8 0, .int .u8 0, .int .u8 0, .int .u32 0, .int .i64 0, .string ⟨#[]⟩, .int .i64 0, .string ⟨#[]⟩, .slice none 0 0] 29)
          have hrowQ := setRow_heap (w13.alloc (.cells #[.int .i64 0, .int .u8 0, .int .u8 0, .int .u8 0, .int .u8 0, .int .u8 0, .int .u8 0, .int .u8 0, .int .u8 0, .int .u8 0, .int .u8 0, .int .u8 0, .int .u8 0, .int .u32 0, .int .i64 0, .string ⟨#[]⟩, .int .i64 0, .string ⟨#[]⟩, .slice none 0 0] 29)) w13.heap.size _ L13.toArray _ _ hrowP
          have hbQ : Below w13.heap.size w13 ((w13.alloc (.cells #[.int .i64 0, .int .u8 0, .int .u8 0, .int .u8 0, .int .u8 0, .int .u8 0, .int .u8 0, .int .u8 0, .int .u8 0, .int .u8 0, .int .u8 0, .int .u8 0, .int .u8 0, .int .u32 0, .int .i64 0, .string ⟨#[]⟩, .int .i64 0, .string ⟨#[]⟩, .slice none 0 0] 29)).setRow w13.heap.size L13.toArray) := srow_below ((Below.refl _ _).alloc (Nat.le_refl _) _) _ (Nat.le_refl _) _
          obtain ⟨w14, hW14⟩ : ∃ w14, (w13.alloc (.cells #[.int .i64 0, .int .u8 0, .int .u8 0, .int .u8 0, .int .u8 0, .int .u8 0, .int .u8 0, .int .u8 0, .int .u8 0, .int .u8 0, .int .u8 0, .int .u8 0, .int .u8 0, .int .u32 0, .int .i64 0, .string ⟨#[]⟩, .int .i64 0, .string ⟨#[]⟩, .slice none 0 0] 29)).setRow w13.heap.size L13.toArray = w14 := ⟨_, rfl⟩
          rw [hW14] at hrowQ hbQ
          obtain ⟨g13, hg13⟩ : ∃ g13, w13.heap.size = g13 := ⟨_, rfl⟩
          rw [hg13] at hrowP hrowQ hW14
          have HROW13 := uhid hrowP
          have HW14 := uhid hW14
          have HL13 := uhid hL13
          have hb1214 : Below w12.heap.size w12 w14 := hb13.trans (hbQ.mono hb13.size)
          have HB14 := uhid (HB12.out.trans (hb1214.mono HB12.out.size))
          rw [HL13.out.eq]
          clear hb13 hbQ hb1214 hrowP hrowQ hW14 hL13 hs
          go_wp2_with (refine wpList_store_row rfl 29 (.tmp 19) (.tmp 133) rfl g13 L13.toArray rfl rfl 29 _ HROW13.out HL13.out.inf HL13.out.sz HL13.out.one ?_; rw [HW14.out])
          go_ret
          exact ⟨rfl, HB14.out⟩
        · rw [HNE.out hy] at hE
          have hy0 : ¬ (y.toNat : Int) = 0 := fun e => hy (UInt8.toNat_inj.1 (by simpa using e))
          obtain ⟨rfl, hb13⟩ := hE
          obtain ⟨L13, hL13⟩ := msgL (sZero 0 (List.replicate 12 0)) none 0
          have hrowP := heap_alloc_new w13 (.cells #[.int .i64 0, .int .u8 0, .int .u8 0, .int .u8 0, .int .u8 0, .int .u8 0, .int .u8 0, .int .u8 0, .int .u8 0, .int .u8 0, .int .u8 0, .int .u8 0, .int .u8 0, .int .u32 0, .int .i64 0, .string ⟨#[]⟩, .int .i64 0, .string ⟨#[]⟩, .slice none 0 0] 29)
          have hrowQ := setRow_heap (w13.alloc (.cells #[.int .i64 0, .int .u8 0, .int .u8 0, .int .u8 0, .int .u8 0, .int .u8 0, .int .u8 0, .int .u8 0, .int .u8 0, .int .u8 0, .int .u8 0, .int .u8 0, .int .u8 0, .int .u32 0, .int .i64 0, .string ⟨#[]⟩, .int .i64 0, .string ⟨#[]⟩, .slice none 0 0] 29)) w13.heap.size _ L13.toArray _ _ hrowP
          have hbQ : Below w13.heap.size w13 ((w13.alloc (.cells #[.int .i64 0, .int .u8 0, .int .u8 0, .int .u8 0, .int .u8 0, .int .u8 0, .int .u8 0, .int .u8 0, .int .u8 0, .int .u8 0, .int .u8 0, .int .u8 0, .int .u8 0, .int .u32 0, .int .i64 0, .string ⟨#[]⟩, .int .i64 0, .string ⟨#[]⟩, .slice none 0 0] 29)).setRow w13.heap.size L13.toArray) := srow_below ((Below.refl _ _).alloc (Nat.le_refl _) _) _ (Nat.le_refl _) _
          obtain ⟨w14, hW14⟩ : ∃ w14, (w13.alloc (.cells #[.int .i64 0, .int .u8 0, .int .u8 0, .int .u8 0, .int .u8 0, .int .u8 0, .int .u8 0, .int .u8 0, .int .u8 0, .int .u8 0, .int .u8 0, .int .u8 0, .int .u8 0, .int .u32 0, .int .i64 0, .string ⟨#[]⟩, .int .i64 0, .string ⟨#[]⟩, .slice none 0 0] 29)).setRow w13.heap.size L13.toArray = w14 := ⟨_, rfl⟩
          rw [hW14] at hrowQ hbQ
          obtain ⟨g13, hg13⟩ : ∃ g13, w13.heap.size = g13 := ⟨_, rfl⟩
          rw [hg13] at hrowP hrowQ hW14
          have HROW13 := uhid hrowP
          have HW14 := uhid hW14
          have HL13 := uhid hL13
          have hb1214 : Below w12.heap.size w12 w14 := hb13.trans (hbQ.mono hb13.size)
          have HB14 := uhid (HB12.out.trans (hb1214.mono HB12.out.size))
          rw [HL13.out.eq]
          clear hb13 hbQ hb1214 hrowP hrowQ hW14 hL13
          go_wp2_with (refine wpList_store_row rfl 29 (.tmp 19) (.tmp 133) rfl g13 L13.toArray rfl rfl 29 _ HROW13.out HL13.out.inf HL13.out.sz HL13.out.one ?_; rw [HW14.out])
          go_ret
          refine ⟨?_, HB14.out⟩
          show Ending.returned (.bool (!((y.toNat : Int) == 0))) = _
          rw [beq_eq_false_iff_ne.2 hy0]
          rfl
      | some m' =>
        have hxy := hXY m' hd
        subst hxy
        clear hq hd4 hd3 hd2 hd1 hp8 hp4 hp3 hp2 hp1 hX hcr hY hXY
        refine wp_region_sched' (G := Grows) (by kernel_rfl) Grows.refl Grows.trans (by kernel_rfl) [(0, true), (1, true), (2, true), (3, true), (4, true), (5, true), (6, true), (7, true), (8, true), (11, true), (12, true), (13, true), (14, true), (15, true), (16, true), (17, true), (18, true), (19, true), (20, true), (21, true), (22, true), (23, true), (24, true), (25, true), (26, true), (27, true), (28, true), (29, true), (30, true), (31, true), (32, true), (33, true), (34, true), (35, true), (36, true), (37, true), (38, true), (39, true), (40, true), (41, true), (42, true), (43, true), (44, true), (9, false), (10, true), (45, true), (46, true), (47, true)] rfl (by kernel_rfl) ?_
        intro KK hKK
        rw [hV]
        clear hV hdr
        iterate 43 (refine sched_take rfl (by rfl) (v := ?_) ?_ ?_; rotate_left; (intro w' hw'; obtain ⟨q4, q3, q2, q1⟩ := HQ.out w' hw'; clear hw'; go_simp; with_reducible rfl); go_simp)
        refine sched_call (f := 19) (args := #[.slice (some ⟨g, 0, none⟩) p8 c4]) rfl (by rfl) (by go_simp) ?_
        refine (crc_any (some ⟨g, 0, none⟩) p8 c4 (EE.take p8) V (HPV.out.cut hpn) (by unfold maxLen; omega)).mono ?_
        rintro e V' ⟨rfl, rfl⟩
        refine ⟨_, rfl, Grows.refl _, ?_⟩
        rw [HCR.out]
        go_simp
        iterate 4 (refine sched_take rfl (by rfl) (v := ?_) ?_ ?_; rotate_left; (intro w' hw'; clear hw'; go_simp; with_reducible rfl); go_simp)
        refine sched_done hKK ?_
        clear hKK
        go_wp2_with fail
        have hPs := HPV.out.cut (show ns ≤ n4 by omega)
        refine (sdecode_any (some ⟨g, 0, none⟩) ns c4 (EE.take ns) V' hPs (by omega) (by unfold maxLen; omega) (fun e => by cases e) (by omega)).mono ?_
        intro e w10 hE
        rw [hd] at hE
        obtain ⟨ub, uc2, rfl, hb10, _, _⟩ := hE
        obtain ⟨L10, hL10⟩ := msgL m' ub uc2
        have hrowP := heap_alloc_new w10 (.cells #[.int .i64 0, .int .u8 0, .int .u8 0, .int .u8 0, .int .u8 0, .int .u8 0, .int .u8 0, .int .u8 0, .int .u8 0, .int .u8 0, .int .u8 0, .int .u8 0, .int .u8 0, .int .u32 0, .int .i64 0, .string ⟨#[]⟩, .int .i64 0, .string ⟨#[]⟩, .slice none 0 0] 29)
        have hrowQ := setRow_heap (w10.alloc (.cells #[.int .i64 0, .int .u8 0, .int .u8 0, .int .u8 0, .int .u8 0, .int .u8 0, .int .u8 0, .int .u8 0, .int .u8 0, .int .u8 0, .int .u8 0, .int .u8 0, .int .u8 0, .int .u32 0, .int .i64 0, .string ⟨#[]⟩, .int .i64 0, .string ⟨#[]⟩, .slice none 0 0] 29)) w10.heap.size _ L10.toArray _ _ hrowP
        have hbQ : Below w10.heap.size w10 ((w10.alloc (.cells #[.int .i64 0, .int .u8 0, .int .u8 0, .int .u8 0, .int .u8 0, .int .u8 0, .int .u8 0, .int .u8 0, .int .u8 0, .int .u8 0, .int .u8 0, .int .u8 0, .int .u8 0, .int .u32 0, .int .i64 0, .string ⟨#[]⟩, .int .i64 0, .string ⟨#[]⟩, .slice none 0 0] 29)).setRow w10.heap.size L10.toArray) := srow_below ((Below.refl _ _).alloc (Nat.le_refl _) _) _ (Nat.le_refl _) _
        obtain ⟨w11, hW11⟩ : ∃ w11, (w10.alloc (.cells #[.int .i64 0, .int .u8 0, .int .u8 0, .int .u8 0, .int .u8 0, .int .u8 0, .int .u8 0, .int .u8 0, .int .u8 0, .int .u8 0, .int .u8 0, .int .u8 0, .int .u8 0, .int .u32 0, .int .i64 0, .string ⟨#[]⟩, .int .i64 0, .string ⟨#[]⟩, .slice none 0 0] 29)).setRow w10.heap.size L10.toArray = w11 := ⟨_, rfl⟩
        rw [hW11] at hrowQ hbQ
        obtain ⟨g10, hg10⟩ : ∃ g10, w10.heap.size = g10 := ⟨_, rfl⟩
        rw [hg10] at hrowP hrowQ hW11
        have HROW10 := uhid hrowP
        have HW11 := uhid hW11
        have HL10 := uhid hL10
        have hb911 : Below V'.heap.size V' w11 := hb10.trans (hbQ.mono hb10.size)
        have HB11 := uhid (HBV.out.trans (hb911.mono HBV.out.size))
        have HP11 := uhid (HPV.out.later hb911)
        obtain ⟨cur11, hcur11⟩ := blk_later HGV.out hb911
        rw [HL10.out.eq]
        clear hPs hb10 hbQ hb911 hrowP hrowQ hW11 hL10 HBV HPV
        -- one of the last bytes as another one
        obtain ⟨kk, hkk⟩ : ∃ kk, n4 - 1 - q3 = kk := ⟨_, rfl⟩
        have hkb : q3 < 4 := hq3b
        have hkI : (n4 : Int) - 1 - (q3 : Int) = (kk : Int) := by omega
        have hkn : kk < n4 := by omega
        have hkl : n4 - 4 ≤ kk := by omega
        obtain ⟨dd, hdd⟩ : ∃ dd, at8 EE kk = dd := ⟨_, rfl⟩
        have hxx := xor_val8 dd y
        obtain ⟨zz, hzz⟩ : ∃ zz, dd ^^^ y = zz := ⟨_, rfl⟩
        rw [hzz] at hxx
        have qk : w11.cell? ⟨g, kk, none⟩ = some (.int .u8 (dd.toNat : Int)) := by
          rcases HP11.out.2 with h0 | ⟨b', off', e, hc⟩
          · omega
          · cases e
            have := hc kk hkn
            rw [Nat.zero_add, hdd] at this
            exact this
        have fk : w11.frozen? ⟨g, kk, none⟩ = false := frozen_of_row w11 g kk _ _ hcur11
        have hPk := byt_setAt HP11.out hkn zz
        have hbk : Below w.heap.size w (w11.setCell ⟨g, kk, none⟩ (.int .u8 (zz.toNat : Int))) := HB11.out.setCell (p := ⟨g, kk, none⟩) hgw _
        obtain ⟨w12, hw12⟩ : ∃ w12, w11.setCell ⟨g, kk, none⟩ (.int .u8 (zz.toNat : Int)) = w12 := ⟨_, rfl⟩
        rw [hw12] at hPk hbk
        have HP12 := uhid hPk
        have HB12 := uhid hbk
        have HW12 := uhid hw12
        have hset : y = 0 → EE.set kk zz = EE := fun e => by
          have hEl := HN4l.out
          rw [← hzz, e, UInt8.xor_zero, ← hdd, at8_get EE kk (by omega)]
          exact List.set_getElem_self _
        have hne : y ≠ 0 → decS (EE.set kk zz) = none := fun e => by
          have hEl := HN4l.out
          have := last_same f kk (by rw [HEE.out]; omega) (by rw [HEE.out]; omega) (by rw [HEE.out]; omega) y e
          rw [HEE.out, hdd, hzz] at this
          exact this
        have hok : decS EE = some f := by
          rw [← HEE.out]
          exact decS_encS f ((rightS_iff f).1 hr) fid fho
        have HSET := uhid hset
        have HNE := uhid hne
        have HOKD := uhid hok
        clear hcur11 hzz hkk hdd hPk hbk hw12 hset hne hok hd
        go_wp2_with (refine wpList_store_row rfl 29 (.tmp 16) (.tmp 113) rfl g10 L10.toArray rfl rfl 29 _ HROW10.out HL10.out.inf HL10.out.sz HL10.out.one ?_; rw [HW11.out])
        rw [HW12.out]
        refine (sdecode_any (some ⟨g, 0, none⟩) n4 c4 (EE.set kk zz) w12 HP12.out hnc4 (by unfold maxLen; omega) (fun e => by cases e) (by omega)).mono ?_
        intro e w13 hE
        by_cases hy : y = 0
        · have hs := HSET.out hy
          rw [hs, HOKD.out] at hE
          have hy0 : (y.toNat : Int) = 0 := by rw [hy]; rfl
          obtain ⟨ub3, uc3, rfl, hb13, _, _⟩ := hE
          obtain ⟨L13, hL13⟩ := msgL f ub3 uc3
          have hrowP := heap_alloc_new w13 (.cells #[.int .i64 0, .int .u8 0, .int .u8 0, .int .u8 0, .int .u8 0, .int .u8 0, .int .u8 0, .int .u8 0, .int .u8 0, .int .u8 0, .int .u8 0, .int .u8 0, .int .u8 0, .int .u32 0, .int .i64 0, .string ⟨#[]⟩, .int .i64 0, .string ⟨#[]⟩, .slice none 0 0] 29)
          have hrowQ := setRow_heap (w13.alloc (.cells #[.int .i64 0, .int .u8 0, .int .u8 0, .int .u8 0, .int .u8 0, .int .u8 0, .int .u8 0, .int .u8 0, .int .u8 0, .int .u8 0, .int .u8 0, .int .u8 0, .int .u8 0, .int .u32 0, .int .i64 0, .string ⟨#[]⟩, .int .i64 0, .string ⟨#[]⟩, .slice none 0 0] 29)) w13.heap.size _ L13.toArray _ _ hrowP
          have hbQ : Below w13.heap.size w13 ((w13.alloc (.cells #[.int .i64 0, .int .u8 0, .int .u8 0, .int .u8 0, .int .u8 0, .int .u8 0, .int .u8 0, .int .u8 0, .int .u8 0, .int .u8 0, .int .u8 0, .int .u8 0, .int .u8 0, .int .u32 0, .int .i64 0, .string ⟨#[]⟩, .int .i64 0, .string ⟨#[]⟩, .slice none 0 0] 29)).setRow w13.heap.size L13.toArray) := srow_below ((Below.refl _ _).alloc (Nat.le_refl _) _) _ (Nat.le_refl _) _
          obtain ⟨w14, hW14⟩ : ∃ w14, (w13.alloc (.cells #[.int .i64 0, .int .u8 0, .int .u8 0, .int .u8 0, .int .u8 0, .int .u8 0, .int .u8 0, .int .u8 0, .int .u8 0, .int .u8 0, .int .u8 0, .int .u8 0, .int .u8 0, .int .u32 0, .int .i64 0, .string ⟨#[]⟩, .int .i64 0, .string ⟨#[]⟩, .slice none 0 0] 29)).setRow w13.heap.size L13.toArray = w14 := ⟨_, rfl⟩
          rw [hW14] at hrowQ hbQ
          obtain ⟨g13, hg13⟩ : ∃ g13, w13.heap.size = g13 := ⟨_, rfl⟩
          rw [hg13] at hrowP hrowQ hW14
          have HROW13 := uhid hrowP
          have HW14 := uhid hW14
          have HL13 := uhid hL13
          have hb1214 : Below w12.heap.size w12 w14 := hb13.trans (hbQ.mono hb13.size)
          have HB14 := uhid (HB12.out.trans (hb1214.mono HB12.out.size))
          rw [HL13.out.eq]
          clear hb13 hbQ hb1214 hrowP hrowQ hW14 hL13 hs
          go_wp2_with (refine wpList_store_row rfl 29 (.tmp 19) (.tmp 133) rfl g13 L13.toArray rfl rfl 29 _ HROW13.out HL13.out.inf HL13.out.sz HL13.out.one ?_; rw [HW14.out])
          go_ret
          exact ⟨rfl, HB14.out⟩
        · rw [HNE.out hy] at hE
          have hy0 : ¬ (y.toNat : Int) = 0 := fun e => hy (UInt8.toNat_inj.1 (by simpa using e))
          obtain ⟨rfl, hb13⟩ := hE
          obtain ⟨L13, hL13⟩ := msgL (sZero 0 (List.replicate 12 0)) none 0
          have hrowP := heap_alloc_new w13 (.cells #[.int .i64 0, .int .u8 0, .int .u8 0, .int .u8 0, .int .u8 0, .int .u8 0, .int .u8 0, .int .u8 0, .int .u8 0, .int .u8 0, .int .u8 0, .int .u8 0, .int .u8 0, .int .u32 0, .int .i64 0, .string ⟨#[]⟩, .int .i64 0, .string ⟨#[]⟩, .slice none 0 0] 29)
          have hrowQ := setRow_heap (w13.alloc (.cells #[.int .i64 0, .int .u8 0, .int .u8 0, .int .u8 0, .int .u8 0, .int .u8 0, .int .u8 0, .int .u8 0, .int .u8 0, .int .u8 0, .int .u8 0, .int .u8 0, .int .u8 0, .int .u32 0, .int .i64 0, .string ⟨#[]⟩, .int .i64 0, .string ⟨#[]⟩, .slice none 0 0] 29)) w13.heap.size _ L13.toArray _ _ hrowP
          have hbQ : Below w13.heap.size w13 ((w13.alloc (.cells #[.int .i64 0, .int .u8 0, .int .u8 0, .int .u8 0, .int .u8 0, .int .u8 0, .int .u8 0, .int .u8 0, .int .u8 0, .int .u8 0, .int .u8 0, .int .u8 0, .int .u8 0, .int .u32 0, .int .i64 0, .string ⟨#[]⟩, .int .i64 0, .string ⟨#[]⟩, .slice none 0 0] 29)).setRow w13.heap.size L13.toArray) := srow_below ((Below.refl _ _).alloc (Nat.le_refl _) _) _ (Nat.le_refl _) _
          obtain ⟨w14, hW14⟩ : ∃ w14, (w13.alloc (.cells #[.int .i64 0, .int .u8 0, .int .u8 0, .int .u8 0, .int .u8 0, .int .u8 0, .int .u8 0, .int .u8 0, .int .u8 0, .int .u8 0, .int .u8 0, .int .u8 0, .int .u8 0, .int .u32 0, .int .i64 0, .string ⟨#[]⟩, .int .i64 0, .string ⟨#[]⟩, .slice none 0 0] 29)).setRow w13.heap.size L13.toArray = w14 := ⟨_, rfl⟩
          rw [hW14] at hrowQ hbQ
          obtain ⟨g13, hg13⟩ : ∃ g13, w13.heap.size = g13 := ⟨_, rfl⟩
          rw [hg13] at hrowP hrowQ hW14
          have HROW13 := uhid hrowP
          have HW14 := uhid hW14
          have HL13 := uhid hL13
          have hb1214 : Below w12.heap.size w12 w14 := hb13.trans (hbQ.mono hb13.size)
          have HB14 := uhid (HB12.out.trans (hb1214.mono HB12.out.size))
          rw [HL13.out.eq]
          clear hb13 hbQ hb1214 hrowP hrowQ hW14 hL13
          go_wp2_with (refine wpList_store_row rfl 29 (.tmp 19) (.tmp 133) rfl g13 L13.toArray rfl rfl 29 _ HROW13.out HL13.out.inf HL13.out.sz HL13.out.one ?_; rw [HW14.out])
          go_ret
          refine ⟨?_, HB14.out⟩
          show Ending.returned (.bool (!((y.toNat : Int) == 0))) = _
          rw [beq_eq_false_iff_ne.2 hy0]
          rfl
  | false =>
    refine (sencode_no f ua uc w3 HOK3.out hr).mono ?_
    rintro e w4 ⟨rfl, hb4⟩
    have HB4 := uhid (HB3.out.trans (hb4.mono HB3.out.size))
    clear hb4
    go_wp2_with fail
    go_ret
    exact ⟨rfl, HB4.out⟩
end Go.Proofs.Ytejbhjcopldekaa.stunLast
