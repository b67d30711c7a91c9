/- The program's tell (stage 12). -/
import Derived.Test.YtejbhjcopldekaaStuF
namespace Go.Proofs.Ytejbhjcopldekaa
set_option linter.unusedVariables false
set_option maxRecDepth 100000
open Go.RowKit

/-- The ID where it lies. -/
theorem MBox.idB {w : World} {b : Nat} {m : SM} {ua : Option Addr} {uc : Nat} (h : MBox w b m ua uc) (hid : m.id.length = 12) : Byt w (some ⟨b, 1, none⟩) 12 m.id := by
  refine ⟨hid, .inr ⟨b, 1, rfl, fun i hi => ?_⟩⟩
  refine h.cell (1 + i) _ ?_
  match i, hi with
  | 0, _ => rfl
  | 1, _ => rfl
  | 2, _ => rfl
  | 3, _ => rfl
  | 4, _ => rfl
  | 5, _ => rfl
  | 6, _ => rfl
  | 7, _ => rfl
  | 8, _ => rfl
  | 9, _ => rfl
  | 10, _ => rfl
  | 11, _ => rfl

theorem xor32b (a : Nat) (h : a < 4294967296) : a ^^^ 1398035790 < 4294967296 := xor_lt32 a 1398035790 h (by decide)
set_option maxHeartbeats 1000000 in
theorem tell_new (m : SM) (ua : Option Addr) (uc : Nat) (w : World) (hm : MOk w m ua uc) (h : m.Right) (hh : m.host < 4294967296) (hid : m.id.length = 12) :
    Calls Try.prog 23 #[.agg (sMsg m ua uc)] w fun e w' => ∃ a n c, e = .returned (.slice a n c) ∧ n = (encS m).length ∧ NewB w w' (.slice a n c) (encS m) := by
  have hsmall := body_small m h
  have HSM := uhid hsmall
  have hM := MBox.new w m ua uc
  have hb0 : Below w.heap.size w (w.alloc (.cells (sMsg m ua uc) 29)) := (Below.refl _ _).alloc (Nat.le_refl _) _
  have k0 : keyOf Try.prog 3 (.int .i64 m.cls) = some (.int .i64 m.cls) := Maps.keyOf_int_mk Try.underlying3 hm.cls
  have HOK := uhid hm
  have HR := uhid h
  obtain ⟨arr, harr⟩ : ∃ arr, sMsg m ua uc = arr := ⟨_, rfl⟩
  have hsz : arr.size = 19 := by rw [← harr]; rfl
  have I29 : (Try.prog.info? 29).map (·.size) = some arr.size := by rw [hsz]; rfl
  have HI := uhid I29
  have HA := uhid harr
  have hblk := hM.blk
  rw [harr] at hb0 hblk ⊢
  have hM' := hM
  rw [harr] at hM'
  have HB0 := uhid hb0
  have HM0 := uhid hM'
  have HBLK := uhid hblk
  clear hm h I29 hsz hM hM' hb0 hblk harr hsmall
  go_enter Try.func23, Try.ntmps23
  go_wp2_with (refine wpList_load_row rfl 29 _ rfl w.heap.size rfl 29 _ (0, 0) _ HBLK.out Try.underlying29 rfl HI.out ?_)
  obtain ⟨W, hW⟩ : ∃ W, w.alloc (.cells arr 29) = W := ⟨_, rfl⟩
  rw [hW] at HB0 HM0
  rw [hW]
  have hlt0 : w.heap.size < W.heap.size := HM0.out.lt
  clear hW HBLK
  rw [← HA.out]
  refine (attributes_new m ua uc W (HOK.out.later HB0.out) HR.out hh).mono ?_
  rintro e w1 ⟨a1, n1, c1, rfl, hn1, hN1⟩
  obtain ⟨BD, hBD⟩ : ∃ BD, sBody m.attrs = BD := ⟨_, rfl⟩
  rw [hBD] at hn1 hN1
  have hn360 : n1 ≤ 360 := by rw [hn1, ← hBD]; exact HSM.out
  have HE : Hid (encS m = sFin ([] ++ putB 2 (sKind m.cls) true ++ putB 2 (n1 + 8) true ++ putB 4 554869826 true ++ m.id ++ BD)) := uhid (by rw [encS, SM.out, hBD, ← hn1]; simp)
  obtain ⟨EE, hEE⟩ : ∃ EE, encS m = EE := ⟨_, rfl⟩
  rw [hEE] at HE
  have HEE := uhid hEE
  have HN1 := uhid hN1
  have HL1 := uhid hn1
  clear hEE hN1 hn1 hBD HSM
  go_wp2_with fail
  obtain ⟨W1, hW⟩ : ∃ W1, w1.drew = W1 := ⟨_, rfl⟩
  have hdr : Below w1.heap.size w1 W1 := by rw [← hW]; exact (Below.refl _ _).drew
  have hM1 := HM0.out.later HN1.out.1 hlt0 (Nat.le_refl _)
  have hM2 := hM1.later hdr hM1.lt (Nat.le_refl _)
  have HMB := uhid hM2
  have HN2 := uhid (HN1.out.later hdr)
  have q0 := hM2.cls
  have hlt : w.heap.size < W1.heap.size := hM2.lt
  refine wp_region_sched' (G := Grows) (by kernel_rfl) Grows.refl Grows.trans (by kernel_rfl) [(1, true), (2, true), (0, false), (3, false), (4, false), (5, true)] rfl (by kernel_rfl) ?_
  intro KK hKK
  rw [hW]
  clear hW hM1 hM2 hdr HN1
  refine sched_take rfl (by rfl) (v := ?_) ?_ ?_; rotate_left; (intro w' hw'; clear hw'; go_simp; with_reducible rfl); go_simp
  refine sched_take rfl (by rfl) (v := .int .i64 m.cls) (fun w' hw' => by
    have q1 := hw'.cell (p := ⟨w.heap.size, 0, none⟩) hlt
    rw [q0] at q1
    go_simp) ?_
  go_simp
  refine sched_call (f := 25) (args := #[]) rfl (by rfl) (by go_simp) ?_
  refine (types_any _).mono ?_
  rintro e w2 ⟨rfl, hb2, hown⟩
  refine ⟨_, rfl, hb2, ?_⟩
  obtain ⟨c, hrun, hat, _⟩ := hown.lookup_int keyedI Try.underlying59 Try.underlying3 (zeroI w2) k0
  rw [tyD_at _ HR.out.cls] at hat
  obtain ⟨kd, hkd⟩ : ∃ kd, sKind m.cls = kd := ⟨_, rfl⟩
  have hkd2 : kd < 65536 := by rw [← hkd]; unfold sKind; split <;> (try split) <;> decide
  rw [hkd] at hat HE
  cases hat
  obtain ⟨g, hg⟩ : ∃ g, W1.heap.size = g := ⟨_, rfl⟩
  have hM2 := HMB.out.later hb2 hlt (Nat.le_refl _)
  have HN3 := uhid (HN2.out.later hb2)
  rw [hg] at hrun
  rw [hg]
  have HM2 := uhid hM2
  have hlt1 := hM2.lt
  clear hown q0 hM2 HMB HN2 hg hb2 hkd
  go_simp
  refine sched_val (v := .int .i64 (kd : Int)) (w' := w2) rfl (by rfl) (by simp [execOp, hrun, Result.andThen, Act.eval]) (Grows.refl _) ?_
  clear hrun
  go_simp
  refine sched_call (f := 41) (args := #[.slice none 0 0, .int .i64 2, .int .i64 (kd : Int)]) rfl (by rfl) (by go_simp) ?_
  refine (sput_new none 0 0 2 kd [] w2 (by omega) ⟨rfl, .inl rfl⟩ (by omega) (by omega)).mono ?_
  rintro e w3 ⟨g3, rfl, hN4⟩
  refine ⟨_, rfl, hN4.1, ?_⟩
  have HM3 := uhid (HM2.out.later hN4.1 hlt1 (Nat.le_refl _))
  have HX := uhid hN4
  obtain ⟨B1, hB1⟩ : ∃ B1, [] ++ putB 2 kd true = B1 := ⟨_, rfl⟩
  have hl1 : B1.length = 0 + 2 := by rw [← hB1]; simp [putB_length]
  rw [hB1] at HE HX
  clear hN4 HM2 hB1
  go_simp
  refine sched_take rfl (by rfl) (v := ?_) ?_ ?_; rotate_left; (intro w' hw'; clear hw'; go_simp; with_reducible rfl); go_simp
  refine sched_done hKK ?_
  clear hKK
  have hB3 := (HX.out.at_ hl1).1
  have hn8 : (n1 : Int) + 8 = ((n1 + 8 : Nat) : Int) := by omega
  obtain ⟨n8, h8⟩ : ∃ n8, n1 + 8 = n8 := ⟨_, rfl⟩
  rw [h8] at hn8 HE
  have hn8' : n8 ≤ 368 := by omega
  have HH8 := uhid h8
  clear h8
  go_wp2_with fail
  refine (sput_new (some ⟨g3, 0, none⟩) (0 + 2) (0 + 2) 2 n8 B1 w3 (by omega) hB3 (by omega) (by omega)).mono ?_
  rintro e w4 ⟨g4, rfl, hN5⟩
  obtain ⟨B2, hB2⟩ : ∃ B2, B1 ++ putB 2 n8 true = B2 := ⟨_, rfl⟩
  have hl2 : B2.length = 0 + 2 + 2 := by rw [← hB2, List.length_append, hl1, putB_length]
  rw [hB2] at HE hN5
  have hlt3 := HM3.out.lt
  have HM4 := uhid (HM3.out.later hN5.1 hlt3 (Nat.le_refl _))
  have hB4 := (hN5.at_ hl2).1
  have HY := uhid (NewB.trans HX.out.1 hN5)
  clear hN5 HM3 HX hB3 hB2 hn8 hl1
  go_wp2_with fail
  refine (sput_new (some ⟨g4, 0, none⟩) (0 + 2 + 2) (0 + 2 + 2) 4 554869826 B2 w4 (by omega) hB4 (by omega) (by omega)).mono ?_
  rintro e w5 ⟨g5, rfl, hN6⟩
  obtain ⟨B3, hB3⟩ : ∃ B3, B2 ++ putB 4 554869826 true = B3 := ⟨_, rfl⟩
  have hl3 : B3.length = 0 + 2 + 2 + 4 := by rw [← hB3, List.length_append, hl2, putB_length]
  rw [hB3] at HE hN6
  have hlt4 := HM4.out.lt
  have HM5 := HM4.out.later hN6.1 hlt4 (Nat.le_refl _)
  have hZ := NewB.trans HY.out.1 hN6
  obtain ⟨a6, c6, w6, hap, hN7⟩ := hZ.many (some ⟨w.heap.size, 1, none⟩) 12 12 m.id (HM5.idB hid) (fun e => by cases e) (by rw [hl3]; omega)
  rw [hl3] at hap hN7
  have HAP := uhid hap
  obtain ⟨B4, hB4'⟩ : ∃ B4, B3 ++ m.id = B4 := ⟨_, rfl⟩
  have hl4 : B4.length = 0 + 2 + 2 + 4 + 12 := by rw [← hB4', List.length_append, hl3, hid]
  rw [hB4'] at HE hN7
  have hBD7 := HN3.out.later hN7.1
  have hnp := hBD7.at_ HL1.out.symm
  obtain ⟨a7, c7, w7, hap7, hN8⟩ := hN7.many a1 n1 c1 BD hnp.1 hnp.2.2.2 (by rw [hl4]; omega)
  rw [hl4] at hap7 hN8
  have HAP7 := uhid hap7
  obtain ⟨B5, hB5⟩ : ∃ B5, B4 ++ BD = B5 := ⟨_, rfl⟩
  obtain ⟨n5, hn5⟩ : ∃ n5, 0 + 2 + 2 + 4 + 12 + n1 = n5 := ⟨_, rfl⟩
  have hl5 : B5.length = n5 := by rw [← hB5, List.length_append, hl4, ← HL1.out, hn5]
  have hn5' : n5 ≤ 400 := by omega
  rw [hB5] at HE hN8
  rw [hn5] at HAP7 hN8
  have HN8 := uhid hN8
  have HB8 := uhid (hN8.at_ hl5)
  clear hN6 hZ hap hN7 hap7 hN8 hBD7 hnp HY HM4 hB4 hB3 hB4' hB5 hn5 hl3 hl2 hl4 HM5 hn8' hn360 HL1
  go_wp2_with (first
    | (at_builtin; refine wpList_append_run rfl (.tmp 19) (.tmp 21) 32 rfl _ _ _ _ rfl rfl HAP.out ?_)
    | (at_builtin; refine wpList_append_run rfl (.tmp 23) (.tmp 24) 32 rfl _ _ _ _ rfl rfl HAP7.out ?_))
  refine (crc_any a7 n5 c7 B5 w7 HB8.out.1 (by unfold maxLen; omega)).mono ?_
  rintro e w8 ⟨rfl, rfl⟩
  obtain ⟨cr, hcr⟩ : ∃ cr : Nat, (crcOf B5).toNat = cr := ⟨_, rfl⟩
  have hcr9 : cr < 4294967296 := by rw [← hcr]; exact (crcOf B5).isLt
  have hE2 : EE = B5 ++ sAttr (32808, putB 4 (cr ^^^ 1398035790) true) := by rw [HE.out, sFin, hcr]
  have x1 : bits .xor .u32 (cr : Int) 1398035790 = ((cr ^^^ 1398035790 : Nat) : Int) := xorU cr 1398035790 hcr9 (by decide)
  have y1 : cr ^^^ 1398035790 < 4294967296 := xor32b cr hcr9
  rw [hcr]
  clear hcr
  obtain ⟨X, hX⟩ : ∃ X, cr ^^^ 1398035790 = X := ⟨_, rfl⟩
  rw [hX] at x1 y1 hE2
  have hwX : IntKind.i64.wrap (X : Int) = (X : Int) := by rw [IntKind.wrap_i64]; omega
  have HE2 := uhid hE2
  clear hX hE2 HE
  go_wp2_with fail
  refine (sput_new none 0 0 4 X [] w8 (by omega) ⟨rfl, .inl rfl⟩ (by omega) (by omega)).mono ?_
  rintro e w9 ⟨g9, rfl, hN9⟩
  have hB9 := (hN9.at_ (show ([] ++ putB 4 X true).length = 0 + 4 by simp [putB_length])).1
  have HB9 := uhid (HB8.out.1.later hN9.1)
  have HBW9 := uhid hN9.1
  clear hN9 x1 y1 hwX
  go_wp2_with fail
  refine (sattr_new a7 n5 c7 B5 32808 (by decide) (some ⟨g9, 0, none⟩) (0 + 4) (0 + 4) ([] ++ putB 4 X true) w9 (by omega) HB9.out hB9 (fun e => by cases e) (by omega)).mono ?_
  rintro e w10 ⟨a, n, c, rfl, hn10, hN10⟩
  have HEnd : Hid (n = EE.length ∧ NewB w w10 (.slice a n c) EE) := uhid (by
    rw [HE2.out]
    refine ⟨?_, ?_⟩
    · rw [List.length_append, hl5, hn10]; rfl
    · exact NewB.trans HB0.out (NewB.trans HN3.out.1 (NewB.trans HN8.out.1 (NewB.trans HBW9.out hN10))))
  clear hn10 hN10 HB9 HB8 HN8 HN3 HBW9 hB9
  go_wp2_with fail
  go_ret
  exact ⟨a, n, c, rfl, by rw [HEE.out]; exact HEnd.out.1, by rw [HEE.out]; exact HEnd.out.2⟩
end Go.Proofs.Ytejbhjcopldekaa
