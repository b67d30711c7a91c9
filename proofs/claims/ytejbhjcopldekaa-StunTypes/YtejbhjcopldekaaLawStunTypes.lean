/- StunTypes: types that are not known are told, in order. For every ID and row of types, without a condition. -/
import Derived.Test.YtejbhjcopldekaaStuX
import Derived.Test.YtejbhjcopldekaaStuS
namespace Go.Proofs.Ytejbhjcopldekaa.stunTypes
open Go.ChangeShapes Go.WideShapes Go.ChangeAt Go.RowKit
set_option linter.unusedVariables false
set_option maxRecDepth 100000

theorem and32767 (x : Int) : ∃ q : Nat, bits .and .i64 x 32767 = (q : Int) ∧ q < 32768 := by
  have e : (BitVec.ofInt 64 x &&& BitVec.ofInt 64 32767).toNat = (x % 32768).toNat := by
    rw [BitVec.toNat_and, BitVec.toNat_ofInt]
    have h7 : (BitVec.ofInt 64 32767).toNat = 2 ^ 15 - 1 := by decide
    rw [h7, Nat.and_two_pow_sub_one_eq_mod]
    omega
  refine ⟨(x % 32768).toNat, ?_, by omega⟩
  show IntKind.i64.wrap ((BitVec.ofInt 64 x &&& BitVec.ofInt 64 32767).toNat : Int) = _
  rw [e, IntKind.wrap_i64]
  omega
theorem irow_at {w : World} {a : Option Addr} {n c : Nat} {zs : List Int} (h : IsRow .i64 w a n c zs) (i : Nat) (hi : i < n) : ∃ b off, a = some ⟨b, off, none⟩ ∧ b < w.heap.size ∧ w.cell? ⟨b, off + i, none⟩ = some (.int .i64 (zs.getD i 0)) := by
  rcases h with ⟨_, h0, _, _⟩ | ⟨x, rfl, hlc, hcm, hz, hcell, _⟩
  · omega
  · have hc0 := hcell 0 (by omega)
    obtain ⟨b, off, spot⟩ := x
    have hspot : spot = none := by simpa [Addr.add] using World.cell?_spot hc0
    subst hspot
    have hc := hcell i (by omega)
    rw [addr_add] at hc
    refine ⟨b, off, rfl, ?_, hc⟩
    rcases Nat.lt_or_ge b w.heap.size with h' | h'
    · exact h'
    · simp [World.cell?, Array.getElem?_eq_none h'] at hc
def OkL (O : List Int) : Prop := ∀ x ∈ O, 41 ≤ x ∧ x ≤ 32767
theorem seg_nums {w : World} {a : Option Addr} {n c : Nat} {O : List Int} (h : Seg w 3 a n c (O.map uq)) (hn : O.length = n) : NumsAt w a n O :=
  ⟨hn, fun i hi => by
    obtain ⟨b', off', e, hc, _⟩ := h.cell i (by omega)
    have hlt := h.lt b' (by rw [e]; rfl)
    exact ⟨b', off', e, hlt, by rw [hc, List.getElem?_map, List.getElem?_eq_getElem hi]; rfl⟩⟩
def mA (l : List UInt8) (O : List Int) : SM := ⟨0, l, 0, 0, [], 0, [], O⟩
def mB (l : List UInt8) (O : List Int) : SM := ⟨3, l, 0, 0, [], 420, [], O⟩
theorem rightA (l : List UInt8) (O : List Int) (h : OkL O) (hl : O.length ≤ 20) : rightS (mA l O) = true := by
  rw [rightS_iff]
  refine ⟨.inl rfl, fun _ => ⟨rfl, rfl⟩, Int.le_refl _, (show (0 : Int) ≤ 65535 by decide), fun _ => ⟨rfl, rfl⟩, fun h => absurd (show (0 : Int) = 3 from h) (by decide), Nat.zero_le _, Nat.zero_le _, hl, fun h => absurd (show (0 : Int) = 3 from h) (by decide), fun n hn => ?_⟩
  have := h n hn
  exact ⟨by omega, by omega, fun _ => ⟨by omega, decide_eq_false (by omega)⟩⟩
theorem rightB (l : List UInt8) (O : List Int) (h : OkL O) (hl : O.length ≤ 20) : rightS (mB l O) = true := by
  rw [rightS_iff]
  refine ⟨.inr (.inr rfl), fun _ => ⟨rfl, rfl⟩, Int.le_refl _, (show (0 : Int) ≤ 65535 by decide), fun h => absurd rfl h, fun _ => ⟨(show (300 : Int) ≤ 420 by decide), (show (420 : Int) ≤ 699 by decide)⟩, Nat.zero_le _, Nat.zero_le _, hl, fun _ h => absurd rfl h, fun n hn => ?_⟩
  have := h n hn
  exact ⟨by omega, by omega, fun h => absurd rfl h⟩
theorem lenA (l : List UInt8) (O : List Int) (hl : l.length = 12) : (encS (mA l O)).length = 28 + 4 * O.length := by
  unfold encS
  rw [sFin_length, out_length _ hl, attrs_req _ rfl]
  have e : (softB (mA l O)).length = 0 := rfl
  have e2 : (mA l O).unk = O := rfl
  rw [List.length_append, List.length_append, sNums_length, e, e2]
  simp
  omega
theorem okA {w : World} {l : List UInt8} {O : List Int} {a : Option Addr} {n c : Nat} (hN : NumsAt w a n O) (h : OkL O) (hn : n ≤ 20) (cl : Int) (hcl : (Lit.int .i64 cl).wf = true) (co : Int) : MOk w ⟨cl, l, 0, 0, [], co, [], O⟩ a c :=
  ⟨hcl, by have e := hN.len; rw [← e] at hN; exact hN, fun x hx => by have := h x hx; simp [Lit.wf, IntKind.min, IntKind.max, IntKind.signed, IntKind.bits]; omega, by have := hN.len; show O.length ≤ _; omega, Nat.zero_le _, Nat.zero_le _⟩

set_option maxHeartbeats 4000000 in
theorem walk (l0 : List UInt8) (a1 : Option Addr) (len1 cap1 : Nat) (z1 : List Int) (w : World) (w0 : l0.length = 12) (w1 : IsRow .i64 w a1 len1 cap1 z1) :
    Calls Try.prog 8 #[.agg (l0.map bv).toArray, .slice a1 len1 cap1] w fun e w' => e = .returned (.bool true) ∧ Below w.heap.size w w' := by
  obtain ⟨v0, v1, v2, v3, v4, v5, v6, v7, v8, v9, v10, v11, hlet⟩ := id_letters l0
  have hmap := map_idL l0 w0
  rw [hlet] at hmap
  have HLE := uhid hlet
  have HMAP := uhid hmap
  have hIR := uhid w1
  have hl1 : len1 ≤ maxLen := by
    rcases w1 with ⟨_, h0, _, _⟩ | ⟨x, _, hlc, hcm, _⟩
    · rw [h0]; exact Nat.zero_le _
    · exact Nat.le_trans hlc hcm
  unfold maxLen at hl1
  have h1 := heap_alloc_new w (.cells (l0.map bv).toArray 23)
  have hb1 : Below w.heap.size w (w.alloc (.cells (l0.map bv).toArray 23)) := (Below.refl _ _).alloc (Nat.le_refl _) _
  rw [hmap] at h1 hb1 ⊢
  have H1 := uhid h1
  have HB1 := uhid hb1
  have hwl : Hid (w.heap.size < (w.alloc (.cells ([v0, v1, v2, v3, v4, v5, v6, v7, v8, v9, v10, v11] : List Value).toArray 23)).heap.size) := uhid (by rw [World.size_alloc]; omega)
  have I23 : Hid ((Try.prog.info? 23).map (·.size) = some ([v0, v1, v2, v3, v4, v5, v6, v7, v8, v9, v10, v11] : List Value).toArray.size) := by show _ = _; kernel_rfl
  clear hlet hmap h1 hb1 w1
  go_enter Try.func8, Try.ntmps8
  go_wp2_with fail
  obtain ⟨W, hW⟩ : ∃ W, w.alloc (.cells ([v0, v1, v2, v3, v4, v5, v6, v7, v8, v9, v10, v11] : List Value).toArray 23) = W := ⟨_, rfl⟩
  rw [hW] at H1 HB1 hwl
  rw [hW]
  clear hW
  refine (stuShown_any W).mono ?_
  rintro e w1 ⟨rfl, hb1⟩
  have R1 := uhid ((hb1.block _ hwl.out).trans H1.out)
  have HB2 := uhid (HB1.out.trans (hb1.mono HB1.out.size))
  have hw1l : w.heap.size < w1.heap.size := Nat.lt_of_lt_of_le hwl.out hb1.size
  have hIR2 := uhid (irow_later hIR.out HB2.out)
  clear hb1 H1 HB1 hwl
  go_wp2_with fail
  go_loopw [6, 7] (fun v i wr => ∃ (k n : Nat) (a : Option Addr) (c : Nat) (O : List Int), k ≤ len1 ∧ k ≤ 20 ∧ n ≤ k ∧ i = .int .i64 k ∧ v = .slice a n c ∧ Hid (O.length = n) ∧ Hid (OkL O) ∧ Hid (Seg wr 3 a n c (O.map uq)) ∧ Hid (∀ j, blockOf a = some j → w1.heap.size ≤ j) ∧ Hid (Below w1.heap.size w1 wr)) (fun _ i _ => len1 - (intOf i).toNat)
  case atStart => exact ⟨0, 0, none, 0, [], by omega, by omega, by omega, rfl, rfl, uhid rfl, uhid (fun x hx => by cases hx), uhid (Seg.nil _ _), uhid (fun j hj => by cases hj), uhid (Below.refl _ _)⟩
  case round =>
    obtain ⟨k, n, a, c, O, hk, hk20, hnk, rfl, rfl, HO, HOK, HSG, HLO, HBR⟩ := hrel
    by_cases hlt : k < len1 ∧ k < 20
    · obtain ⟨hlt1, hlt2⟩ := hlt
      have i1 : (k : Int) < (len1 : Int) := by omega
      have i2 : (k : Int) < 20 := by omega
      obtain ⟨b1, o1, rfl, hbw, hc0⟩ := irow_at hIR2.out k hlt1
      have hc := hc0
      rw [← HBR.out.cell (p := ⟨b1, o1 + k, none⟩) hbw] at hc
      clear hc0
      obtain ⟨x, hx⟩ : ∃ x, z1.getD k 0 = x := ⟨_, rfl⟩
      rw [hx] at hc
      obtain ⟨q, hq, hqb⟩ := and32767 x
      clear hx
      by_cases hq40 : 40 < q
      · have j1 : (40 : Int) < (q : Int) := by omega
        obtain ⟨i0, hi, hz0, hz1, hz2⟩ := info_parts (show (Try.prog.info? 3).map (fun i => (i.zero, i.size, i.bytes)) = some (some (.int .i64 0), 1, 8) by kernel_rfl)
        obtain ⟨a2, c2, W2, hap, hs2, hgr, hfr, hsz⟩ := append_seg (P := Try.prog) 27 27 3 i0 (.int .i64 0) 8 Try.underlying27 hi hz0 hz1 hz2 rfl wr a n c (O.map uq) HSG.out (.int .i64 (q : Int)) rfl (by unfold maxLen; omega) (by omega)
        have HAP := uhid hap
        have HS2 : Hid (Seg W2 3 a2 (n + 1) c2 ((O ++ [(q : Int)]).map uq)) := uhid (by simpa [uq] using hs2)
        have HL2 : Hid ((O ++ [(q : Int)]).length = n + 1) := uhid (by rw [List.length_append, HO.out]; rfl)
        have HOK2 : Hid (OkL (O ++ [(q : Int)])) := uhid (fun y hy => by
          rcases List.mem_append.1 hy with hy | hy
          · exact HOK.out y hy
          · simp only [List.mem_singleton] at hy; subst hy; omega)
        have HLO2 : Hid (∀ j, blockOf a2 = some j → w1.heap.size ≤ j) := uhid (fun j hj => by
          rcases hfr with e | e
          · exact HLO.out j (by rw [← e]; exact hj)
          · have := e j hj; have := HBR.out.size; omega)
        have HBR2 := uhid (HBR.out.grown hgr HBR.out.size (fun j hj => HLO.out j hj))
        clear hap hs2 hgr hfr hsz hi hz0 hz1 hz2 HO HOK HSG HLO HBR
        go_wp2_with (at_builtin; refine wpList_append_run rfl (.tmp 36) (.tmp 38) 27 rfl _ _ _ _ rfl rfl HAP.out ?_)
        exact ⟨⟨k + 1, n + 1, a2, c2, _, by omega, by omega, by omega, by go_num, rfl, HL2, HOK2, HS2, HLO2, HBR2⟩, by simp [intOf]; omega⟩
      · have j1 : ¬ (40 : Int) < (q : Int) := by omega
        go_wp2_with fail
        exact ⟨⟨k + 1, n, a, c, O, by omega, by omega, by omega, by go_num, rfl, HO, HOK, HSG, HLO, HBR⟩, by simp [intOf]; omega⟩
    · have hcond : ¬ (k : Int) < (len1 : Int) ∨ ((k : Int) < (len1 : Int) ∧ ¬ (k : Int) < 20) := by omega
      have hn20 : n ≤ 20 := by omega
      have HBW := uhid (HB2.out.trans (HBR.out.mono HB2.out.size))
      have R2 := uhid ((HBR.out.block _ hw1l).trans R1.out)
      have hN := seg_nums HSG.out HO.out
      have HA : Hid (sMsg (mA l0 O) a c = #[.int .i64 0, v0, v1, v2, v3, v4, v5, v6, v7, v8, v9, v10, v11, .int .u32 0, .int .i64 0, .string ⟨#[]⟩, .int .i64 0, .string ⟨#[]⟩, .slice a n c]) := uhid (by
        have h := HLE.out
        simp only [idL, List.cons.injEq, and_true] at h
        obtain ⟨rfl, rfl, rfl, rfl, rfl, rfl, rfl, rfl, rfl, rfl, rfl, rfl⟩ := h
        rw [← HO.out]
        rfl)
      have HB : Hid (sMsg (mB l0 O) a c = #[.int .i64 3, v0, v1, v2, v3, v4, v5, v6, v7, v8, v9, v10, v11, .int .u32 0, .int .i64 0, .string ⟨#[]⟩, .int .i64 420, .string ⟨#[]⟩, .slice a n c]) := uhid (by
        have h := HLE.out
        simp only [idL, List.cons.injEq, and_true] at h
        obtain ⟨rfl, rfl, rfl, rfl, rfl, rfl, rfl, rfl, rfl, rfl, rfl, rfl⟩ := h
        rw [← HO.out]
        rfl)
      have HN := uhid hN
      have hwrl : w.heap.size < wr.heap.size := Nat.lt_of_lt_of_le hw1l HBR.out.size
      have hl20 : O.length ≤ 20 := by rw [HO.out]; exact hn20
      have hrA := rightA l0 O HOK.out hl20
      have hrB := rightB l0 O HOK.out hl20
      have HRA := uhid hrA
      have HRB := uhid hrB
      clear hN hrA hrB HB2 HBR R1 HSG HLO hIR2 HLE HMAP
      rcases hcond with i1 | ⟨i0, i1⟩
      · go_wp2_with (refine wpList_load_row rfl 23 _ rfl w.heap.size rfl 23 _ (0, 0) _ R2.out Try.underlying23 rfl I23.out ?_)
        rw [← HA.out]
        refine (sencode_yes (mA l0 O) a c wr (okA HN.out HOK.out hn20 0 (by decide) 0) HRA.out (show (0 : Nat) < 4294967296 by decide) w0).mono ?_
        rintro e w4 ⟨a4, n4, c4, rfl, hn4, hN4⟩
        have hdA : decS (encS (mA l0 O)) = some (mA l0 O) := decS_encS _ ((rightS_iff _).1 HRA.out) w0 (show (0 : Nat) < 4294967296 by decide)
        have hlA := lenA l0 O w0
        rw [HO.out] at hlA
        obtain ⟨EA, hEA⟩ : ∃ EA, encS (mA l0 O) = EA := ⟨_, rfl⟩
        rw [hEA] at hN4 hn4 hdA hlA
        rw [hlA] at hn4
        have HP4 := uhid (hN4.at_ (by rw [hn4, hlA]))
        have HB4 := uhid (HBW.out.trans (hN4.1.mono HBW.out.size))
        have R4 := uhid ((hN4.1.block _ hwrl).trans R2.out)
        have hw4l : w.heap.size < w4.heap.size := Nat.lt_of_lt_of_le hwrl hN4.1.size
        have HN4 := uhid (HN.out.later hN4.1)
        have HD4 := uhid hdA
        have HN44 := uhid hn4
        have hn4b : n4 ≤ 1000 := by omega
        clear hN4 hdA hEA hlA R2 HN HBW HA hwrl hn4
        go_wp2_with (refine wpList_load_row rfl 23 _ rfl w.heap.size rfl 23 _ (0, 0) _ R4.out Try.underlying23 rfl I23.out ?_)
        rw [← HB.out]
        refine (sencode_yes (mB l0 O) a c w4 (okA HN4.out HOK.out hn20 3 (by decide) 420) HRB.out (show (0 : Nat) < 4294967296 by decide) w0).mono ?_
        rintro e w5 ⟨a5, n5, c5, rfl, hn5, hN5⟩
        have hdB : decS (encS (mB l0 O)) = some (mB l0 O) := decS_encS _ ((rightS_iff _).1 HRB.out) w0 (show (0 : Nat) < 4294967296 by decide)
        have hsB := encS_small (mB l0 O) ((rightS_iff _).1 HRB.out) w0
        obtain ⟨EB, hEB⟩ : ∃ EB, encS (mB l0 O) = EB := ⟨_, rfl⟩
        rw [hEB] at hN5 hn5 hdB hsB
        rw [← hn5] at hsB
        have HP5 := uhid (hN5.at_ hn5.symm)
        have HP4b := uhid (HP4.out.1.later hN5.1)
        have HB5 := uhid (HB4.out.trans (hN5.1.mono HB4.out.size))
        have HN5 := uhid (HN4.out.later hN5.1)
        have HD5 := uhid hdB
        have hP4c := HP4.out.2
        have HPc := uhid hP4c
        clear hN5 hn5 hdB hEB R4 HN4 HB4 HB HP4 hw4l hP4c
        have HP5a := uhid (And.intro HP4b.out HPc.out)
        clear HP4b HPc
        go_wp2_with fail
        refine (sdecode_any a4 n4 c4 EA w5 HP5a.out.1 HP5a.out.2.1 HP5a.out.2.2.1 HP5a.out.2.2.2 (by omega)).mono ?_
        intro e w6 hE
        rw [HD4.out] at hE
        obtain ⟨ub6, uc6, rfl, hb6, hN6, _⟩ := hE
        obtain ⟨L6, hL6⟩ := msgL (mA l0 O) ub6 uc6
        have hrowP := heap_alloc_new w6 (.cells #[.int .i64 0, .int .u8 0, .int .u8 0, .int .u8 0, .int .u8 0, .int .u8 0, .int .u8 0, .int .u8 0, .int .u8 0, .int .u8 0, .int .u8 0, .int .u8 0, .int .u8 0, .int .u32 0, .int .i64 0, .string ⟨#[]⟩, .int .i64 0, .string ⟨#[]⟩, .slice none 0 0] 29)
        have hrowQ := setRow_heap (w6.alloc (.cells #[.int .i64 0, .int .u8 0, .int .u8 0, .int .u8 0, .int .u8 0, .int .u8 0, .int .u8 0, .int .u8 0, .int .u8 0, .int .u8 0, .int .u8 0, .int .u8 0, .int .u8 0, .int .u32 0, .int .i64 0, .string ⟨#[]⟩, .int .i64 0, .string ⟨#[]⟩, .slice none 0 0] 29)) w6.heap.size _ L6.toArray _ _ hrowP
        have hbQ : Below w6.heap.size w6 ((w6.alloc (.cells #[.int .i64 0, .int .u8 0, .int .u8 0, .int .u8 0, .int .u8 0, .int .u8 0, .int .u8 0, .int .u8 0, .int .u8 0, .int .u8 0, .int .u8 0, .int .u8 0, .int .u8 0, .int .u32 0, .int .i64 0, .string ⟨#[]⟩, .int .i64 0, .string ⟨#[]⟩, .slice none 0 0] 29)).setRow w6.heap.size L6.toArray) := srow_below ((Below.refl _ _).alloc (Nat.le_refl _) _) _ (Nat.le_refl _) _
        obtain ⟨w7, hw7⟩ : ∃ w7, (w6.alloc (.cells #[.int .i64 0, .int .u8 0, .int .u8 0, .int .u8 0, .int .u8 0, .int .u8 0, .int .u8 0, .int .u8 0, .int .u8 0, .int .u8 0, .int .u8 0, .int .u8 0, .int .u8 0, .int .u32 0, .int .i64 0, .string ⟨#[]⟩, .int .i64 0, .string ⟨#[]⟩, .slice none 0 0] 29)).setRow w6.heap.size L6.toArray = w7 := ⟨_, rfl⟩
        rw [hw7] at hrowQ hbQ
        obtain ⟨g6, hg6⟩ : ∃ g6, w6.heap.size = g6 := ⟨_, rfl⟩
        have hb57 : Below w5.heap.size w5 w7 := hb6.trans (hbQ.mono hb6.size)
        have HN7 := uhid (hN6.later hbQ)
        rw [hg6] at hrowP hrowQ hw7
        rw [← hL6.eq] at hrowQ
        have HBX6 : Hid (MBox w7 g6 (mA l0 O) ub6 uc6) := uhid ⟨⟨_, rfl, hrowQ⟩, (Array.getElem?_eq_some_iff.1 hrowQ).1⟩
        have HROW6 := uhid hrowP
        have HW7 := uhid hw7
        have HL6 := uhid hL6
        clear hrowP hrowQ hw7 hb6 hbQ hN6 hL6
        rw [HL6.out.eq]
        have HB7 := uhid (HB5.out.trans (hb57.mono HB5.out.size))
        have HN7a := uhid (HN5.out.later hb57)
        have HP7 := uhid (HP5.out.1.later hb57)
        have HPd := uhid HP5.out.2
        clear hb57 HB5 HN5 HP5 HP5a HD4
        have HP7a := uhid (And.intro HP7.out HPd.out)
        clear HP7 HPd
        go_wp2_with (refine wpList_store_row rfl 29 (.tmp 13) (.tmp 57) rfl g6 L6.toArray rfl rfl 29 _ HROW6.out HL6.out.inf HL6.out.sz HL6.out.one ?_; rw [HW7.out])
        refine (sdecode_any a5 n5 c5 EB w7 HP7a.out.1 HP7a.out.2.1 HP7a.out.2.2.1 HP7a.out.2.2.2 (by omega)).mono ?_
        intro e w8 hE
        rw [HD5.out] at hE
        obtain ⟨ub8, uc8, rfl, hb8, hN8, _⟩ := hE
        obtain ⟨L8, hL8⟩ := msgL (mB l0 O) ub8 uc8
        have hrowP := heap_alloc_new w8 (.cells #[.int .i64 0, .int .u8 0, .int .u8 0, .int .u8 0, .int .u8 0, .int .u8 0, .int .u8 0, .int .u8 0, .int .u8 0, .int .u8 0, .int .u8 0, .int .u8 0, .int .u8 0, .int .u32 0, .int .i64 0, .string ⟨#[]⟩, .int .i64 0, .string ⟨#[]⟩, .slice none 0 0] 29)
        have hrowQ := setRow_heap (w8.alloc (.cells #[.int .i64 0, .int .u8 0, .int .u8 0, .int .u8 0, .int .u8 0, .int .u8 0, .int .u8 0, .int .u8 0, .int .u8 0, .int .u8 0, .int .u8 0, .int .u8 0, .int .u8 0, .int .u32 0, .int .i64 0, .string ⟨#[]⟩, .int .i64 0, .string ⟨#[]⟩, .slice none 0 0] 29)) w8.heap.size _ L8.toArray _ _ hrowP
        have hbQ : Below w8.heap.size w8 ((w8.alloc (.cells #[.int .i64 0, .int .u8 0, .int .u8 0, .int .u8 0, .int .u8 0, .int .u8 0, .int .u8 0, .int .u8 0, .int .u8 0, .int .u8 0, .int .u8 0, .int .u8 0, .int .u8 0, .int .u32 0, .int .i64 0, .string ⟨#[]⟩, .int .i64 0, .string ⟨#[]⟩, .slice none 0 0] 29)).setRow w8.heap.size L8.toArray) := srow_below ((Below.refl _ _).alloc (Nat.le_refl _) _) _ (Nat.le_refl _) _
        obtain ⟨w9, hw9⟩ : ∃ w9, (w8.alloc (.cells #[.int .i64 0, .int .u8 0, .int .u8 0, .int .u8 0, .int .u8 0, .int .u8 0, .int .u8 0, .int .u8 0, .int .u8 0, .int .u8 0, .int .u8 0, .int .u8 0, .int .u8 0, .int .u32 0, .int .i64 0, .string ⟨#[]⟩, .int .i64 0, .string ⟨#[]⟩, .slice none 0 0] 29)).setRow w8.heap.size L8.toArray = w9 := ⟨_, rfl⟩
        rw [hw9] at hrowQ hbQ
        obtain ⟨g8, hg8⟩ : ∃ g8, w8.heap.size = g8 := ⟨_, rfl⟩
        have hb79 : Below w7.heap.size w7 w9 := hb8.trans (hbQ.mono hb8.size)
        have HN9 := uhid (hN8.later hbQ)
        rw [hg8] at hrowP hrowQ hw9
        rw [← hL8.eq] at hrowQ
        have HBX8 : Hid (MBox w9 g8 (mB l0 O) ub8 uc8) := uhid ⟨⟨_, rfl, hrowQ⟩, (Array.getElem?_eq_some_iff.1 hrowQ).1⟩
        have HROW8 := uhid hrowP
        have HW9 := uhid hw9
        have HL8 := uhid hL8
        clear hrowP hrowQ hw9 hb8 hbQ hN8 hL8
        rw [HL8.out.eq]
        have HB9 := uhid (HB7.out.trans (hb79.mono HB7.out.size))
        have HN9a := uhid (HN7a.out.later hb79)
        have HBX6b := uhid (HBX6.out.later hb79 HBX6.out.lt (Nat.le_refl _))
        have HN7b := uhid (HN7.out.later hb79)
        have s18 : w9.cell? ⟨g6, 18, none⟩ = some (.slice ub6 n uc6) := by have := HBX6b.out.unk; rw [show (mA l0 O).unk.length = n from HO.out] at this; exact this
        have t18 : w9.cell? ⟨g8, 18, none⟩ = some (.slice ub8 n uc8) := by have := HBX8.out.unk; rw [show (mB l0 O).unk.length = n from HO.out] at this; exact this
        have hmul : (28 : Int) + 4 * (n : Int) = (n4 : Int) := by have := HN44.out; omega
        clear hb79 HB7 HN7a HP7a HD5 HBX6 HN7 HROW6 HW7
        go_wp2_with (refine wpList_store_row rfl 29 (.tmp 15) (.tmp 62) rfl g8 L8.toArray rfl rfl 29 _ HROW8.out HL8.out.inf HL8.out.sz HL8.out.one ?_; rw [HW9.out])
        clear s18 t18 hmul
        go_loopw [17] (fun i wr => ∃ k2 : Nat, k2 ≤ n ∧ i = .int .i64 k2 ∧ Hid (Below w9.heap.size w9 wr)) (fun i _ => n - (intOf i).toNat)
        case atStart => exact ⟨0, Nat.zero_le _, rfl, uhid (Below.refl _ _)⟩
        case round =>
          obtain ⟨k2, hk2, rfl, hbr⟩ := hrel
          by_cases hlt2 : k2 < n
          · have i3 : (k2 : Int) < (n : Int) := by omega
            have hOk : k2 < O.length := by rw [HO.out]; exact hlt2
            obtain ⟨b1, o1, rfl, hbw1, hc1⟩ := HN9a.out.at_ k2 hOk
            obtain ⟨b2, o2, rfl, hbw2, hc2⟩ := HN7b.out.at_ k2 hOk
            obtain ⟨b3, o3, rfl, hbw3, hc3⟩ := HN9.out.at_ k2 hOk
            have hc2' : w9.cell? ⟨b2, o2 + k2, none⟩ = some (.int .i64 O[k2]) := hc2
            have hc3' : w9.cell? ⟨b3, o3 + k2, none⟩ = some (.int .i64 O[k2]) := hc3
            obtain ⟨V, hV⟩ : ∃ V, wr.drew = V := ⟨_, rfl⟩
            have hdr : Below wr.heap.size wr V := by rw [← hV]; exact (Below.refl _ _).drew
            have HBV := uhid (hbr.out.trans (hdr.mono hbr.out.size))
            clear hc2 hc3
            generalize O[k2] = x at hc1 hc2' hc3'
            clear hdr
            go_wp2_with fail
            refine wp_region_sched' (G := Grows) (by kernel_rfl) Grows.refl Grows.trans (by kernel_rfl) [(0, true), (1, true), (2, true), (3, true), (4, true), (5, true), (6, true), (7, true), (8, true), (9, true), (10, true), (11, true), (12, true), (13, true), (14, true), (15, true), (16, true), (17, true), (18, true), (19, true), (20, true), (21, true)] rfl (by kernel_rfl) ?_
            intro KK hKK
            rw [hV]
            clear hV
            iterate 22 (refine sched_take rfl (by rfl) (v := ?_) ?_ ?_; rotate_left; (intro w' hw'; have hbv : Below w9.heap.size w9 w' := HBV.out.trans (hw'.mono HBV.out.size); have hx6 := HBX6b.out.later hbv HBX6b.out.lt (Nat.le_refl _); have hx8 := HBX8.out.later hbv HBX8.out.lt (Nat.le_refl _); have s18 := hx6.unk; have t18 := hx8.unk; rw [show (mA l0 O).unk.length = n from HO.out] at s18; rw [show (mB l0 O).unk.length = n from HO.out] at t18; have x1 := hc1; rw [← hbv.cell (p := ⟨b1, o1 + k2, none⟩) hbw1] at x1; have x2 := hc2'; rw [← hbv.cell (p := ⟨b2, o2 + k2, none⟩) hbw2] at x2; have x3 := hc3'; rw [← hbv.cell (p := ⟨b3, o3 + k2, none⟩) hbw3] at x3; clear hx6 hx8 hbv hw'; go_simp; with_reducible rfl); go_simp)
            refine sched_done hKK ?_
            clear hKK hc1 hc2' hc3'
            go_wp2_with fail
            exact ⟨⟨k2 + 1, by omega, by go_num, HBV⟩, by simp [intOf]; omega⟩
          · have i3 : ¬ (k2 : Int) < (n : Int) := by omega
            have HE := uhid (HB9.out.trans (hbr.out.mono HB9.out.size))
            have s16 : wr.cell? ⟨g8, 16, none⟩ = some (.int .i64 420) := (HBX8.out.later hbr.out HBX8.out.lt (Nat.le_refl _)).code
            go_wp2_with fail
            go_ret
            exact ⟨rfl, HE.out⟩
      · go_wp2_with (refine wpList_load_row rfl 23 _ rfl w.heap.size rfl 23 _ (0, 0) _ R2.out Try.underlying23 rfl I23.out ?_)
        rw [← HA.out]
        refine (sencode_yes (mA l0 O) a c wr (okA HN.out HOK.out hn20 0 (by decide) 0) HRA.out (show (0 : Nat) < 4294967296 by decide) w0).mono ?_
        rintro e w4 ⟨a4, n4, c4, rfl, hn4, hN4⟩
        have hdA : decS (encS (mA l0 O)) = some (mA l0 O) := decS_encS _ ((rightS_iff _).1 HRA.out) w0 (show (0 : Nat) < 4294967296 by decide)
        have hlA := lenA l0 O w0
        rw [HO.out] at hlA
        obtain ⟨EA, hEA⟩ : ∃ EA, encS (mA l0 O) = EA := ⟨_, rfl⟩
        rw [hEA] at hN4 hn4 hdA hlA
        rw [hlA] at hn4
        have HP4 := uhid (hN4.at_ (by rw [hn4, hlA]))
        have HB4 := uhid (HBW.out.trans (hN4.1.mono HBW.out.size))
        have R4 := uhid ((hN4.1.block _ hwrl).trans R2.out)
        have hw4l : w.heap.size < w4.heap.size := Nat.lt_of_lt_of_le hwrl hN4.1.size
        have HN4 := uhid (HN.out.later hN4.1)
        have HD4 := uhid hdA
        have HN44 := uhid hn4
        have hn4b : n4 ≤ 1000 := by omega
        clear hN4 hdA hEA hlA R2 HN HBW HA hwrl hn4
        go_wp2_with (refine wpList_load_row rfl 23 _ rfl w.heap.size rfl 23 _ (0, 0) _ R4.out Try.underlying23 rfl I23.out ?_)
        rw [← HB.out]
        refine (sencode_yes (mB l0 O) a c w4 (okA HN4.out HOK.out hn20 3 (by decide) 420) HRB.out (show (0 : Nat) < 4294967296 by decide) w0).mono ?_
        rintro e w5 ⟨a5, n5, c5, rfl, hn5, hN5⟩
        have hdB : decS (encS (mB l0 O)) = some (mB l0 O) := decS_encS _ ((rightS_iff _).1 HRB.out) w0 (show (0 : Nat) < 4294967296 by decide)
        have hsB := encS_small (mB l0 O) ((rightS_iff _).1 HRB.out) w0
        obtain ⟨EB, hEB⟩ : ∃ EB, encS (mB l0 O) = EB := ⟨_, rfl⟩
        rw [hEB] at hN5 hn5 hdB hsB
        rw [← hn5] at hsB
        have HP5 := uhid (hN5.at_ hn5.symm)
        have HP4b := uhid (HP4.out.1.later hN5.1)
        have HB5 := uhid (HB4.out.trans (hN5.1.mono HB4.out.size))
        have HN5 := uhid (HN4.out.later hN5.1)
        have HD5 := uhid hdB
        have hP4c := HP4.out.2
        have HPc := uhid hP4c
        clear hN5 hn5 hdB hEB R4 HN4 HB4 HB HP4 hw4l hP4c
        have HP5a := uhid (And.intro HP4b.out HPc.out)
        clear HP4b HPc
        go_wp2_with fail
        refine (sdecode_any a4 n4 c4 EA w5 HP5a.out.1 HP5a.out.2.1 HP5a.out.2.2.1 HP5a.out.2.2.2 (by omega)).mono ?_
        intro e w6 hE
        rw [HD4.out] at hE
        obtain ⟨ub6, uc6, rfl, hb6, hN6, _⟩ := hE
        obtain ⟨L6, hL6⟩ := msgL (mA l0 O) ub6 uc6
        have hrowP := heap_alloc_new w6 (.cells #[.int .i64 0, .int .u8 0, .int .u8 0, .int .u8 0, .int .u8 0, .int .u8 0, .int .u8 0, .int .u8 0, .int .u8 0, .int .u8 0, .int .u8 0, .int .u8 0, .int .u8 0, .int .u32 0, .int .i64 0, .string ⟨#[]⟩, .int .i64 0, .string ⟨#[]⟩, .slice none 0 0] 29)
        have hrowQ := setRow_heap (w6.alloc (.cells #[.int .i64 0, .int .u8 0, .int .u8 0, .int .u8 0, .int .u8 0, .int .u8 0, .int .u8 0, .int .u8 0, .int .u8 0, .int .u8 0, .int .u8 0, .int .u8 0, .int .u8 0, .int .u32 0, .int .i64 0, .string ⟨#[]⟩, .int .i64 0, .string ⟨#[]⟩, .slice none 0 0] 29)) w6.heap.size _ L6.toArray _ _ hrowP
        have hbQ : Below w6.heap.size w6 ((w6.alloc (.cells #[.int .i64 0, .int .u8 0, .int .u8 0, .int .u8 0, .int .u8 0, .int .u8 0, .int .u8 0, .int .u8 0, .int .u8 0, .int .u8 0, .int .u8 0, .int .u8 0, .int .u8 0, .int .u32 0, .int .i64 0, .string ⟨#[]⟩, .int .i64 0, .string ⟨#[]⟩, .slice none 0 0] 29)).setRow w6.heap.size L6.toArray) := srow_below ((Below.refl _ _).alloc (Nat.le_refl _) _) _ (Nat.le_refl _) _
        obtain ⟨w7, hw7⟩ : ∃ w7, (w6.alloc (.cells #[.int .i64 0, .int .u8 0, .int .u8 0, .int .u8 0, .int .u8 0, .int .u8 0, .int .u8 0, .int .u8 0, .int .u8 0, .int .u8 0, .int .u8 0, .int .u8 0, .int .u8 0, .int .u32 0, .int .i64 0, .string ⟨#[]⟩, .int .i64 0, .string ⟨#[]⟩, .slice none 0 0] 29)).setRow w6.heap.size L6.toArray = w7 := ⟨_, rfl⟩
        rw [hw7] at hrowQ hbQ
        obtain ⟨g6, hg6⟩ : ∃ g6, w6.heap.size = g6 := ⟨_, rfl⟩
        have hb57 : Below w5.heap.size w5 w7 := hb6.trans (hbQ.mono hb6.size)
        have HN7 := uhid (hN6.later hbQ)
        rw [hg6] at hrowP hrowQ hw7
        rw [← hL6.eq] at hrowQ
        have HBX6 : Hid (MBox w7 g6 (mA l0 O) ub6 uc6) := uhid ⟨⟨_, rfl, hrowQ⟩, (Array.getElem?_eq_some_iff.1 hrowQ).1⟩
        have HROW6 := uhid hrowP
        have HW7 := uhid hw7
        have HL6 := uhid hL6
        clear hrowP hrowQ hw7 hb6 hbQ hN6 hL6
        rw [HL6.out.eq]
        have HB7 := uhid (HB5.out.trans (hb57.mono HB5.out.size))
        have HN7a := uhid (HN5.out.later hb57)
        have HP7 := uhid (HP5.out.1.later hb57)
        have HPd := uhid HP5.out.2
        clear hb57 HB5 HN5 HP5 HP5a HD4
        have HP7a := uhid (And.intro HP7.out HPd.out)
        clear HP7 HPd
        go_wp2_with (refine wpList_store_row rfl 29 (.tmp 13) (.tmp 57) rfl g6 L6.toArray rfl rfl 29 _ HROW6.out HL6.out.inf HL6.out.sz HL6.out.one ?_; rw [HW7.out])
        refine (sdecode_any a5 n5 c5 EB w7 HP7a.out.1 HP7a.out.2.1 HP7a.out.2.2.1 HP7a.out.2.2.2 (by omega)).mono ?_
        intro e w8 hE
        rw [HD5.out] at hE
        obtain ⟨ub8, uc8, rfl, hb8, hN8, _⟩ := hE
        obtain ⟨L8, hL8⟩ := msgL (mB l0 O) ub8 uc8
        have hrowP := heap_alloc_new w8 (.cells #[.int .i64 0, .int .u8 0, .int .u8 0, .int .u8 0, .int .u8 0, .int .u8 0, .int .u8 0, .int .u8 0, .int .u8 0, .int .u8 0, .int .u8 0, .int .u8 0, .int .u8 0, .int .u32 0, .int .i64 0, .string ⟨#[]⟩, .int .i64 0, .string ⟨#[]⟩, .slice none 0 0] 29)
        have hrowQ := setRow_heap (w8.alloc (.cells #[.int .i64 0, .int .u8 0, .int .u8 0, .int .u8 0, .int .u8 0, .int .u8 0, .int .u8 0, .int .u8 0, .int .u8 0, .int .u8 0, .int .u8 0, .int .u8 0, .int .u8 0, .int .u32 0, .int .i64 0, .string ⟨#[]⟩, .int .i64 0, .string ⟨#[]⟩, .slice none 0 0] 29)) w8.heap.size _ L8.toArray _ _ hrowP
        have hbQ : Below w8.heap.size w8 ((w8.alloc (.cells #[.int .i64 0, .int .u8 0, .int .u8 0, .int .u8 0, .int .u8 0, .int .u8 0, .int .u8 0, .int .u8 0, .int .u8 0, .int .u8 0, .int .u8 0, .int .u8 0, .int .u8 0, .int .u32 0, .int .i64 0, .string ⟨#[]⟩, .int .i64 0, .string ⟨#[]⟩, .slice none 0 0] 29)).setRow w8.heap.size L8.toArray) := srow_below ((Below.refl _ _).alloc (Nat.le_refl _) _) _ (Nat.le_refl _) _
        obtain ⟨w9, hw9⟩ : ∃ w9, (w8.alloc (.cells #[.int .i64 0, .int .u8 0, .int .u8 0, .int .u8 0, .int .u8 0, .int .u8 0, .int .u8 0, .int .u8 0, .int .u8 0, .int .u8 0, .int .u8 0, .int .u8 0, .int .u8 0, .int .u32 0, .int .i64 0, .string ⟨#[]⟩, .int .i64 0, .string ⟨#[]⟩, .slice none 0 0] 29)).setRow w8.heap.size L8.toArray = w9 := ⟨_, rfl⟩
        rw [hw9] at hrowQ hbQ
        obtain ⟨g8, hg8⟩ : ∃ g8, w8.heap.size = g8 := ⟨_, rfl⟩
        have hb79 : Below w7.heap.size w7 w9 := hb8.trans (hbQ.mono hb8.size)
        have HN9 := uhid (hN8.later hbQ)
        rw [hg8] at hrowP hrowQ hw9
        rw [← hL8.eq] at hrowQ
        have HBX8 : Hid (MBox w9 g8 (mB l0 O) ub8 uc8) := uhid ⟨⟨_, rfl, hrowQ⟩, (Array.getElem?_eq_some_iff.1 hrowQ).1⟩
        have HROW8 := uhid hrowP
        have HW9 := uhid hw9
        have HL8 := uhid hL8
        clear hrowP hrowQ hw9 hb8 hbQ hN8 hL8
        rw [HL8.out.eq]
        have HB9 := uhid (HB7.out.trans (hb79.mono HB7.out.size))
        have HN9a := uhid (HN7a.out.later hb79)
        have HBX6b := uhid (HBX6.out.later hb79 HBX6.out.lt (Nat.le_refl _))
        have HN7b := uhid (HN7.out.later hb79)
        have s18 : w9.cell? ⟨g6, 18, none⟩ = some (.slice ub6 n uc6) := by have := HBX6b.out.unk; rw [show (mA l0 O).unk.length = n from HO.out] at this; exact this
        have t18 : w9.cell? ⟨g8, 18, none⟩ = some (.slice ub8 n uc8) := by have := HBX8.out.unk; rw [show (mB l0 O).unk.length = n from HO.out] at this; exact this
        have hmul : (28 : Int) + 4 * (n : Int) = (n4 : Int) := by have := HN44.out; omega
        clear hb79 HB7 HN7a HP7a HD5 HBX6 HN7 HROW6 HW7
        go_wp2_with (refine wpList_store_row rfl 29 (.tmp 15) (.tmp 62) rfl g8 L8.toArray rfl rfl 29 _ HROW8.out HL8.out.inf HL8.out.sz HL8.out.one ?_; rw [HW9.out])
        clear s18 t18 hmul
        go_loopw [17] (fun i wr => ∃ k2 : Nat, k2 ≤ n ∧ i = .int .i64 k2 ∧ Hid (Below w9.heap.size w9 wr)) (fun i _ => n - (intOf i).toNat)
        case atStart => exact ⟨0, Nat.zero_le _, rfl, uhid (Below.refl _ _)⟩
        case round =>
          obtain ⟨k2, hk2, rfl, hbr⟩ := hrel
          by_cases hlt2 : k2 < n
          · have i3 : (k2 : Int) < (n : Int) := by omega
            have hOk : k2 < O.length := by rw [HO.out]; exact hlt2
            obtain ⟨b1, o1, rfl, hbw1, hc1⟩ := HN9a.out.at_ k2 hOk
            obtain ⟨b2, o2, rfl, hbw2, hc2⟩ := HN7b.out.at_ k2 hOk
            obtain ⟨b3, o3, rfl, hbw3, hc3⟩ := HN9.out.at_ k2 hOk
            have hc2' : w9.cell? ⟨b2, o2 + k2, none⟩ = some (.int .i64 O[k2]) := hc2
            have hc3' : w9.cell? ⟨b3, o3 + k2, none⟩ = some (.int .i64 O[k2]) := hc3
            obtain ⟨V, hV⟩ : ∃ V, wr.drew = V := ⟨_, rfl⟩
            have hdr : Below wr.heap.size wr V := by rw [← hV]; exact (Below.refl _ _).drew
            have HBV := uhid (hbr.out.trans (hdr.mono hbr.out.size))
            clear hc2 hc3
            generalize O[k2] = x at hc1 hc2' hc3'
            clear hdr
            go_wp2_with fail
            refine wp_region_sched' (G := Grows) (by kernel_rfl) Grows.refl Grows.trans (by kernel_rfl) [(0, true), (1, true), (2, true), (3, true), (4, true), (5, true), (6, true), (7, true), (8, true), (9, true), (10, true), (11, true), (12, true), (13, true), (14, true), (15, true), (16, true), (17, true), (18, true), (19, true), (20, true), (21, true)] rfl (by kernel_rfl) ?_
            intro KK hKK
            rw [hV]
            clear hV
            iterate 22 (refine sched_take rfl (by rfl) (v := ?_) ?_ ?_; rotate_left; (intro w' hw'; have hbv : Below w9.heap.size w9 w' := HBV.out.trans (hw'.mono HBV.out.size); have hx6 := HBX6b.out.later hbv HBX6b.out.lt (Nat.le_refl _); have hx8 := HBX8.out.later hbv HBX8.out.lt (Nat.le_refl _); have s18 := hx6.unk; have t18 := hx8.unk; rw [show (mA l0 O).unk.length = n from HO.out] at s18; rw [show (mB l0 O).unk.length = n from HO.out] at t18; have x1 := hc1; rw [← hbv.cell (p := ⟨b1, o1 + k2, none⟩) hbw1] at x1; have x2 := hc2'; rw [← hbv.cell (p := ⟨b2, o2 + k2, none⟩) hbw2] at x2; have x3 := hc3'; rw [← hbv.cell (p := ⟨b3, o3 + k2, none⟩) hbw3] at x3; clear hx6 hx8 hbv hw'; go_simp; with_reducible rfl); go_simp)
            refine sched_done hKK ?_
            clear hKK hc1 hc2' hc3'
            go_wp2_with fail
            exact ⟨⟨k2 + 1, by omega, by go_num, HBV⟩, by simp [intOf]; omega⟩
          · have i3 : ¬ (k2 : Int) < (n : Int) := by omega
            have HE := uhid (HB9.out.trans (hbr.out.mono HB9.out.size))
            have s16 : wr.cell? ⟨g8, 16, none⟩ = some (.int .i64 420) := (HBX8.out.later hbr.out HBX8.out.lt (Nat.le_refl _)).code
            go_wp2_with fail
            go_ret
            exact ⟨rfl, HE.out⟩
end Go.Proofs.Ytejbhjcopldekaa.stunTypes
