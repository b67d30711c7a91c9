/- The laws' own helpers (stage 12): same, of what is the same. -/
import Derived.Test.YtejbhjcopldekaaStuV
import Derived.Test.YtejbhjcopldekaaRefSc
namespace Go.Proofs.Ytejbhjcopldekaa
set_option linter.unusedVariables false
set_option maxRecDepth 100000
open Go.RowKit

theorem dm_all {W : World} {g ic uc : Nat} {ia ua : Option Addr} {m : SM} (h : DmIs W g m ia ic ua uc) :
    W.cell? ⟨g, 0, none⟩ = some (.int .i64 m.cls) ∧ W.cell? ⟨g, 1, none⟩ = some (.slice ia m.id.length ic) ∧ W.cell? ⟨g, 4, none⟩ = some (.string (S m.soft)) ∧ W.cell? ⟨g, 5, none⟩ = some (.int .i64 m.code) ∧ W.cell? ⟨g, 6, none⟩ = some (.string (S m.reason)) ∧ W.cell? ⟨g, 7, none⟩ = some (.slice ua m.unk.length uc) :=
  ⟨h.c 0 _ rfl, h.c 1 _ rfl, h.c 4 _ rfl, h.c 5 _ rfl, h.c 6 _ rfl, h.c 7 _ rfl⟩
set_option maxHeartbeats 8000000 in
theorem samem_yes (m : SM) (ua : Option Addr) (uc : Nat) (ia : Option Addr) (ic : Nat) (ub : Option Addr) (uc2 : Nat) (w : World) (hid : m.id.length = 12) (hN : NumsAt w ua m.unk.length m.unk) (hI : IntsAt w ub m.unk.length m.unk) (hB : Byt w ia 12 m.id) (hl : m.unk.length ≤ 1000000) :
    Calls Try.prog 18 #[.agg (sMsg m ua uc), .agg (dMsg m ia ic ub uc2)] w fun e w' => e = .returned (.bool true) ∧ Below w.heap.size w w' := by
  have hM := MBox.new w m ua uc
  have hb0 : Below w.heap.size w (w.alloc (.cells (sMsg m ua uc) 29)) := (Below.refl _ _).alloc (Nat.le_refl _) _
  have hs0 : (w.alloc (.cells (sMsg m ua uc) 29)).heap.size = w.heap.size + 1 := by rw [World.size_alloc]
  obtain ⟨arr, harr⟩ : ∃ arr, sMsg m ua uc = arr := ⟨_, rfl⟩
  obtain ⟨brr, hbrr⟩ : ∃ brr, dMsg m ia ic ub uc2 = brr := ⟨_, rfl⟩
  rw [harr] at hM hb0 hs0 ⊢
  have hr := heap_alloc_new (w.alloc (.cells arr 29)) (.cells brr 37)
  have hb1 := hb0.alloc hb0.size (.cells brr 37)
  have hM1 := hM.later ((Below.refl _ _).alloc (Nat.le_refl _) (.cells brr 37)) hM.lt (Nat.le_refl _)
  rw [hs0] at hr
  have hD : DmIs ((w.alloc (.cells arr 29)).alloc (.cells brr 37)) (w.heap.size + 1) m ia ic ub uc2 := ⟨by rw [hr, ← hbrr]⟩
  rw [hbrr]
  have HM1 := uhid hM1
  have HD := uhid hD
  have HB1 := uhid hb1
  have HN := uhid hN
  have HI := uhid hI
  have HB := uhid hB
  clear hM hb0 hr hb1 hM1 harr hbrr hN hI hB hD hs0
  go_enter Try.func18, Try.ntmps18
  go_wp2_with fail
  obtain ⟨W, hW⟩ : ∃ W, ((w.alloc (.cells arr 29)).alloc (.cells brr 37)).drew = W := ⟨_, rfl⟩
  have hdr : Below ((w.alloc (.cells arr 29)).alloc (.cells brr 37)).heap.size ((w.alloc (.cells arr 29)).alloc (.cells brr 37)) W := by rw [← hW]; exact (Below.refl _ _).drew
  have HMW := uhid (HM1.out.later hdr HM1.out.lt (Nat.le_refl _))
  have HDW := uhid (HD.out.kept (hdr.block _ HD.out.lt))
  have HWW := uhid (HB1.out.trans (hdr.mono HB1.out.size))
  have HBW := uhid (HB.out.later HWW.out)
  refine wp_region_sched' (G := Grows) (by kernel_rfl) Grows.refl Grows.trans (by kernel_rfl) [(0, true), (1, true), (2, true), (3, true), (4, true), (5, true), (6, true), (7, true), (8, true), (9, true), (10, true), (11, true), (12, true), (13, true), (14, true), (15, true), (16, true), (17, true), (18, true), (19, true), (20, true), (21, true), (22, true), (23, true), (24, true), (25, true), (26, true), (27, true), (28, true), (29, true), (30, true), (31, true), (32, true), (33, true), (34, true), (35, true), (36, true), (37, true), (38, true), (39, true), (40, true), (41, true), (42, true), (43, true), (44, true), (45, true), (46, true), (47, true), (48, true), (49, true), (50, true)] rfl (by kernel_rfl) ?_
  intro KK hKK
  rw [hW]
  clear hW hdr HM1 HD HB1
  iterate 16 (refine sched_take rfl (by rfl) (v := ?_) ?_ ?_; rotate_left; (intro w' hw'; have hb := HMW.out.later hw' HMW.out.lt (Nat.le_refl _); have hd := HDW.out.kept (hw'.block _ HDW.out.lt); have q0 := hb.cls; have q15 := hb.soft; have q16 := hb.code; have q17 := hb.reason; have q18 := hb.unk; obtain ⟨p0, p1, p4, p5, p6, p7⟩ := dm_all hd; have c1 := conv_bytes w' (some ⟨w.heap.size, 1, none⟩) 12 12 m.id (hb.idB hid); have c2 := conv_bytes w' ia 12 ic m.id (HBW.out.on hw'); rw [hid] at p1; clear hb hd hw'; go_simp; with_reducible rfl); go_simp)
  refine sched_take rfl (by rfl) (v := .agg #[.int .u32 (m.host : Int), .int .i64 m.port]) (fun w' hw' => exec_load_part 26 _ rfl w.heap.size 13 rfl _ _ (HMW.out.later hw' HMW.out.lt (Nat.le_refl _)).addr Try.underlying26 rfl rfl) ?_
  go_simp
  iterate 1 (refine sched_take rfl (by rfl) (v := ?_) ?_ ?_; rotate_left; (intro w' hw'; have hb := HMW.out.later hw' HMW.out.lt (Nat.le_refl _); have hd := HDW.out.kept (hw'.block _ HDW.out.lt); have q0 := hb.cls; have q15 := hb.soft; have q16 := hb.code; have q17 := hb.reason; have q18 := hb.unk; obtain ⟨p0, p1, p4, p5, p6, p7⟩ := dm_all hd; have c1 := conv_bytes w' (some ⟨w.heap.size, 1, none⟩) 12 12 m.id (hb.idB hid); have c2 := conv_bytes w' ia 12 ic m.id (HBW.out.on hw'); rw [hid] at p1; clear hb hd hw'; go_simp; with_reducible rfl); go_simp)
  refine sched_take rfl (by rfl) (v := .agg #[.int .u32 (m.host : Int), .int .i64 m.port]) (fun w' hw' => exec_load_part 26 _ rfl (w.heap.size + 1) 2 rfl [.int .u32 (m.host : Int), .int .i64 m.port] _ (fun j v hj => by
    have hd := HDW.out.kept (hw'.block _ HDW.out.lt)
    match j, hj with
    | 0, hj => cases hj; exact hd.c 2 _ rfl
    | 1, hj => cases hj; exact hd.c 3 _ rfl) Try.underlying26 rfl rfl) ?_
  go_simp
  iterate 32 (refine sched_take rfl (by rfl) (v := ?_) ?_ ?_; rotate_left; (intro w' hw'; have hb := HMW.out.later hw' HMW.out.lt (Nat.le_refl _); have hd := HDW.out.kept (hw'.block _ HDW.out.lt); have q0 := hb.cls; have q15 := hb.soft; have q16 := hb.code; have q17 := hb.reason; have q18 := hb.unk; obtain ⟨p0, p1, p4, p5, p6, p7⟩ := dm_all hd; have c1 := conv_bytes w' (some ⟨w.heap.size, 1, none⟩) 12 12 m.id (hb.idB hid); have c2 := conv_bytes w' ia 12 ic m.id (HBW.out.on hw'); rw [hid] at p1; clear hb hd hw'; go_simp; with_reducible rfl); go_simp)
  refine sched_done hKK ?_
  clear hKK
  go_wp2_with fail
  have hli := HN.out.later HWW.out
  have hii := HI.out.later HWW.out
  have HNW := uhid hli
  have HIW := uhid hii
  clear hli hii
  go_loopw [5] (fun i wr => ∃ k : Nat, k ≤ m.unk.length ∧ i = .int .i64 k ∧ Hid (Below W.heap.size W wr)) (fun i _ => m.unk.length - (intOf i).toNat)
  case atStart => exact ⟨0, Nat.zero_le _, rfl, uhid (Below.refl _ _)⟩
  case round =>
    obtain ⟨k, hk, rfl, hbr⟩ := hrel
    have hMr := HMW.out.later hbr.out HMW.out.lt (Nat.le_refl _)
    have q18 := hMr.unk
    by_cases hlt : k < m.unk.length
    · have i1 : (k : Int) < (m.unk.length : Int) := by omega
      obtain ⟨b1, o1, rfl, hbw1, hc1⟩ := HNW.out.at_ k hlt
      obtain ⟨b2, o2, rfl, hbw2, hc2⟩ := HIW.out.at_ k hlt
      obtain ⟨V, hV⟩ : ∃ V, wr.drew = V := ⟨_, rfl⟩
      have hdr : Below wr.heap.size wr V := by rw [← hV]; exact (Below.refl _ _).drew
      have HBV := uhid (hbr.out.trans (hdr.mono hbr.out.size))
      generalize m.unk[k] = x at hc1 hc2
      clear hMr hdr
      go_wp2_with fail
      refine wp_region_sched' (G := Grows) (by kernel_rfl) Grows.refl Grows.trans (by kernel_rfl) [(0, true), (1, true), (2, true), (3, true), (4, true), (5, true), (6, true), (7, true), (8, true), (9, true), (10, true)] rfl (by kernel_rfl) ?_
      intro KK hKK
      rw [hV]
      clear hV q18
      iterate 11 (refine sched_take rfl (by rfl) (v := ?_) ?_ ?_; rotate_left; (intro w' hw'; have hbv : Below W.heap.size W w' := HBV.out.trans (hw'.mono HBV.out.size); have hb := HMW.out.later hbv HMW.out.lt (Nat.le_refl _); have hd := HDW.out.kept (hbv.block _ HDW.out.lt); have q18 := hb.unk; obtain ⟨_, _, _, _, _, p7⟩ := dm_all hd; have x1 := hc1; rw [← hbv.cell (p := ⟨b1, o1 + k, none⟩) hbw1] at x1; have x2 := hc2; rw [← hbv.cell (p := ⟨b2, o2 + k, none⟩) hbw2] at x2; clear hb hd hbv hw'; go_simp; with_reducible rfl); go_simp)
      refine sched_done hKK ?_
      clear hKK hc1 hc2
      go_wp2_with fail
      exact ⟨⟨k + 1, by omega, by go_num, HBV⟩, by simp [intOf]; omega⟩
    · have i1 : ¬ (k : Int) < (m.unk.length : Int) := by omega
      have HE := uhid (HWW.out.trans (hbr.out.mono HWW.out.size))
      clear hMr
      go_wp2_with fail
      go_ret
      exact ⟨rfl, HE.out⟩
end Go.Proofs.Ytejbhjcopldekaa
