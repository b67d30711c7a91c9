/- The program's Decode (stage 12; written by tools/mkstudec.py). -/
import Derived.Test.YtejbhjcopldekaaStuR
import Derived.Test.YtejbhjcopldekaaWalkD
namespace Go.Proofs.Ytejbhjcopldekaa
set_option linter.unusedVariables false
set_option maxRecDepth 100000
open Go.RowKit

/-- A message's cells, in a list. -/
structure MsgL (m : SM) (ua : Option Addr) (uc : Nat) (L : List Value) : Prop where
  eq : sMsg m ua uc = L.toArray
  one : L.toArray.all (·.oneCell') = true
  inf : (Try.prog.info? 29).map (·.size) = some L.toArray.size
  sz : 19 = L.toArray.size
theorem msgL (m : SM) (ua : Option Addr) (uc : Nat) : ∃ L, MsgL m ua uc L := by
  refine ⟨(sMsg m ua uc).toList, by simp, ?_, ?_, by simp [sMsg]⟩
  · rw [Array.all_eq_true_iff_forall_mem]
    intro u hu
    simp only [List.mem_toArray] at hu
    exact sMsg_one m ua uc _ (by simp) u hu
  · have e1 : (Try.prog.info? 29).map (·.size) = some 19 := by kernel_rfl
    rw [e1]
    simp [sMsg]
theorem NumsAt.setRow {w : World} {a : Option Addr} {n g : Nat} {l : List Int} {cs : Array Value} (h : NumsAt w a n l) (hne : ∀ b off, a = some ⟨b, off, none⟩ → b ≠ g) : NumsAt (w.setRow g cs) a n l :=
  ⟨h.len, fun i hi => by
    obtain ⟨b, off, e, hbw, hc⟩ := h.at_ i hi
    exact ⟨b, off, e, by simpa [World.setRow] using hbw, by rw [World.cell?_of_block (setRow_other w g _ _ (hne b off e))]; exact hc⟩⟩
theorem NumsAt.setAt {w : World} {a : Option Addr} {n g i : Nat} {l : List Int} {v : Value} (h : NumsAt w a n l) (hne : ∀ b off, a = some ⟨b, off, none⟩ → b ≠ g) : NumsAt (w.setCell ⟨g, i, none⟩ v) a n l :=
  ⟨h.len, fun i' hi => by
    obtain ⟨b, off, e, hbw, hc⟩ := h.at_ i' hi
    exact ⟨b, off, e, by simpa using hbw, by rw [World.cell?_of_block (heap_setCell_other w ⟨g, i, none⟩ b v (hne b off e))]; exact hc⟩⟩
theorem hearS_long (b : List UInt8) (m : SM) (h : hearS b = some m) : 20 ≤ b.length := by
  unfold hearS at h
  split at h
  · cases h
  · omega
theorem mok_sane {w : World} {m : SM} {ua : Option Addr} {uc : Nat} (hN : NumsAt w ua m.unk.length m.unk) (hS : Sane 1000 m) : MOk w m ua uc := by
  have h1 := hS.unk
  have h2 := hS.soft
  have h3 := hS.reason
  refine ⟨?_, hN, fun n hn => ?_, by omega, by omega, by omega⟩
  · rcases hS.cls with e | e | e <;> rw [e] <;> decide
  · have := hS.nums n hn
    simp [Lit.wf, IntKind.min, IntKind.max, IntKind.signed, IntKind.bits]
    omega

set_option maxHeartbeats 2000000 in
theorem dec1_any (bb : Nat) (a : Option Addr) (n c : Nat) (b : List UInt8) (w : World) (hbx : w.heap[bb]? = some (.cells #[.slice a n c] 32 (0, 0))) (hB : Byt w a n b) (hnc : n ≤ c) (hcm : c ≤ maxLen) (hnil : a = none → c = 0) (hb : n ≤ 1000) :
    Calls Try.prog 33 #[.pointer (some ⟨bb, 0, none⟩)] w fun e w' => HearEnd w (decS b) e w' := by
  have hbl := hB.1
  have hbbl : bb < w.heap.size := (Array.getElem?_eq_some_iff.1 hbx).1
  have hb0 : Below w.heap.size w (w.alloc (.cells #[.int .i64 0, .int .u8 0, .int .u8 0, .int .u8 0, .int .u8 0, .int .u8 0, .int .u8 0, .int .u8 0, .int .u8 0, .int .u8 0, .int .u8 0, .int .u8 0, .int .u8 0, .int .u32 0, .int .i64 0, .string ⟨#[]⟩, .int .i64 0, .string ⟨#[]⟩, .slice none 0 0] 29)) := (Below.refl _ _).alloc (Nat.le_refl _) _
  have hres := heap_alloc_new w (.cells #[.int .i64 0, .int .u8 0, .int .u8 0, .int .u8 0, .int .u8 0, .int .u8 0, .int .u8 0, .int .u8 0, .int .u8 0, .int .u8 0, .int .u8 0, .int .u8 0, .int .u8 0, .int .u32 0, .int .i64 0, .string ⟨#[]⟩, .int .i64 0, .string ⟨#[]⟩, .slice none 0 0] 29)
  have hs1 : (w.alloc (.cells #[.int .i64 0, .int .u8 0, .int .u8 0, .int .u8 0, .int .u8 0, .int .u8 0, .int .u8 0, .int .u8 0, .int .u8 0, .int .u8 0, .int .u8 0, .int .u8 0, .int .u8 0, .int .u32 0, .int .i64 0, .string ⟨#[]⟩, .int .i64 0, .string ⟨#[]⟩, .slice none 0 0] 29)).heap.size = w.heap.size + 1 := by rw [World.size_alloc]
  have q0 : (w.alloc (.cells #[.int .i64 0, .int .u8 0, .int .u8 0, .int .u8 0, .int .u8 0, .int .u8 0, .int .u8 0, .int .u8 0, .int .u8 0, .int .u8 0, .int .u8 0, .int .u8 0, .int .u8 0, .int .u32 0, .int .i64 0, .string ⟨#[]⟩, .int .i64 0, .string ⟨#[]⟩, .slice none 0 0] 29)).cell? ⟨bb, 0, none⟩ = some (.slice a n c) := by rw [cell_of_row _ bb 0 _ _ (0, 0) ((hb0.block bb hbbl).trans hbx)]; rfl
  obtain ⟨w1, hw1⟩ : ∃ w1, w.alloc (.cells #[.int .i64 0, .int .u8 0, .int .u8 0, .int .u8 0, .int .u8 0, .int .u8 0, .int .u8 0, .int .u8 0, .int .u8 0, .int .u8 0, .int .u8 0, .int .u8 0, .int .u8 0, .int .u32 0, .int .i64 0, .string ⟨#[]⟩, .int .i64 0, .string ⟨#[]⟩, .slice none 0 0] 29) = w1 := ⟨_, rfl⟩
  rw [hw1] at hb0 hres hs1 q0
  have HW1 := uhid hw1
  have HB0 := uhid hb0
  have HRES := uhid hres
  have HBX := uhid hbx
  have HB := uhid hB
  obtain ⟨x, hx⟩ : ∃ x, decS b = x := ⟨_, rfl⟩
  rw [hx]
  have HX := uhid hx
  have HD := uhid (hearS_dec b)
  clear hw1 hb0 hres hbx hB hx
  go_enter Try.func33, Try.ntmps33
  refine wp_seq (wp_cut (fun A W => A = { tmps := #[.pointer (some ⟨bb, 0, none⟩), .pointer (some ⟨w.heap.size, 0, none⟩), undef, undef, undef, undef, undef, undef, undef, undef, undef, undef, undef, undef, undef, undef, undef], defers := [] } ∧ W = w1) ?_ ?_)
  · go_wp2
    exact HW1.out
  rintro A W ⟨rfl, rfl⟩
  simp only [Exit.then]
  go_wp2_with fail
  refine (hear_any a n c b W (HB.out.later HB0.out) hnc hcm hnil hb).mono ?_
  intro e w2 hE
  obtain ⟨y, hy⟩ : ∃ y, hearS b = y := ⟨_, rfl⟩
  rw [hy] at hE HD
  cases y with
  | none =>
    obtain ⟨rfl, hbel⟩ := hE
    have hx9 : x = none := by rw [← HX.out, ← HD.out]; rfl
    subst hx9
    have HBE := uhid (HB0.out.trans (hbel.mono HB0.out.size))
    clear hbel hy HX HD
    go_wp2_with fail
    exact ⟨rfl, rfl, HBE.out⟩
  | some m =>
    obtain ⟨hbel, ua, uc, rfl, hN, hub, hS⟩ := hE
    have HUB : Hid (∀ b off, ua = some ⟨b, off, none⟩ → w.heap.size + 1 ≤ b) := uhid (fun b' off' e => by have := hub b' off' e; omega)
    clear hub
    obtain ⟨L, hL⟩ := msgL m ua uc
    obtain ⟨k1, k2⟩ := hearS_keeps b m hy
    have hlen := hearS_long b m hy
    have hrow2 := heap_alloc_new w2 (.cells #[.int .i64 0, .int .u8 0, .int .u8 0, .int .u8 0, .int .u8 0, .int .u8 0, .int .u8 0, .int .u8 0, .int .u8 0, .int .u8 0, .int .u8 0, .int .u8 0, .int .u8 0, .int .u32 0, .int .i64 0, .string ⟨#[]⟩, .int .i64 0, .string ⟨#[]⟩, .slice none 0 0] 29)
    have hrow3 := setRow_heap (w2.alloc (.cells #[.int .i64 0, .int .u8 0, .int .u8 0, .int .u8 0, .int .u8 0, .int .u8 0, .int .u8 0, .int .u8 0, .int .u8 0, .int .u8 0, .int .u8 0, .int .u8 0, .int .u8 0, .int .u32 0, .int .i64 0, .string ⟨#[]⟩, .int .i64 0, .string ⟨#[]⟩, .slice none 0 0] 29)) w2.heap.size _ L.toArray _ _ hrow2
    have hb3 : Below w2.heap.size w2 ((w2.alloc (.cells #[.int .i64 0, .int .u8 0, .int .u8 0, .int .u8 0, .int .u8 0, .int .u8 0, .int .u8 0, .int .u8 0, .int .u8 0, .int .u8 0, .int .u8 0, .int .u8 0, .int .u8 0, .int .u32 0, .int .i64 0, .string ⟨#[]⟩, .int .i64 0, .string ⟨#[]⟩, .slice none 0 0] 29)).setRow w2.heap.size L.toArray) := srow_below ((Below.refl _ _).alloc (Nat.le_refl _) _) _ (Nat.le_refl _) _
    obtain ⟨w3, hw3⟩ : ∃ w3, (w2.alloc (.cells #[.int .i64 0, .int .u8 0, .int .u8 0, .int .u8 0, .int .u8 0, .int .u8 0, .int .u8 0, .int .u8 0, .int .u8 0, .int .u8 0, .int .u8 0, .int .u8 0, .int .u8 0, .int .u32 0, .int .i64 0, .string ⟨#[]⟩, .int .i64 0, .string ⟨#[]⟩, .slice none 0 0] 29)).setRow w2.heap.size L.toArray = w3 := ⟨_, rfl⟩
    rw [hw3] at hrow3 hb3
    obtain ⟨g, hg⟩ : ∃ g, w2.heap.size = g := ⟨_, rfl⟩
    rw [hg] at hrow2 hrow3 hw3
    have HROW2 := uhid hrow2
    have HROW3 := uhid hrow3
    have HW3 := uhid hw3
    have HL := uhid hL
    have hg3 : g < w3.heap.size := (Array.getElem?_eq_some_iff.1 hrow3).1
    have HWB := uhid (HB0.out.trans (hbel.mono HB0.out.size))
    have hbw3 : Below w.heap.size w w3 := HWB.out.trans (hb3.mono HWB.out.size)
    have HBW3 := uhid hbw3
    have hres3 : w3.heap[w.heap.size]? = some (.cells #[.int .i64 0, .int .u8 0, .int .u8 0, .int .u8 0, .int .u8 0, .int .u8 0, .int .u8 0, .int .u8 0, .int .u8 0, .int .u8 0, .int .u8 0, .int .u8 0, .int .u8 0, .int .u32 0, .int .i64 0, .string ⟨#[]⟩, .int .i64 0, .string ⟨#[]⟩, .slice none 0 0] 29 (0, 0)) := (((hbel.trans (hb3.mono hbel.size)).block _ (by omega)).trans HRES.out)
    have HRES3 := uhid hres3
    have HOK : Hid (MOk w3 m ua uc) := uhid ((mok_sane hN hS).later hb3)
    have HNS := uhid (hN.later hb3)
    have HS := uhid hS
    have hgw : w.heap.size < g := by have := hbel.size; omega
    clear hbel hN hS hrow2 hrow3 hw3 hb3 hbw3 hres3 q0 hL HRES
    go_wp2_with (first
      | (refine wpList_store_row rfl 29 (.tmp 2) (.tmp 6) rfl g L.toArray rfl (by rw [← HL.out.eq]; rfl) 29 _ HROW2.out HL.out.inf HL.out.sz HL.out.one ?_; rw [HW3.out])
      | refine wpList_load_row rfl 29 _ rfl g rfl 29 _ (0, 0) _ HROW3.out Try.underlying29 rfl HL.out.inf ?_)
    rw [← HL.out.eq]
    by_cases hr : rightS m = true
    · refine (sencode_yes m ua uc w3 HOK.out hr k2 k1).mono ?_
      rintro e w4 ⟨a4, n4, c4, rfl, hn4, hN4⟩
      have HP4 := uhid (hN4.at_ hn4.symm)
      have HB4 := uhid hN4.1
      have hq4 : w4.cell? ⟨bb, 0, none⟩ = some (.slice a n c) := by rw [cell_of_row _ bb 0 _ _ (0, 0) (((HBW3.out.trans (hN4.1.mono HBW3.out.size)).block bb hbbl).trans HBX.out)]; rfl
      have HROW4 := uhid ((hN4.1.block g hg3).trans HROW3.out)
      have HN4l := uhid hn4
      clear hN4 hn4
      go_wp2_with fail
      refine (same_any a4 a n4 c4 n c (encS m) b w4 HP4.out.1 (HB.out.later (HBW3.out.trans (HB4.out.mono HBW3.out.size)))).mono ?_
      rintro e w5 ⟨rfl, rfl⟩
      by_cases he : encS m = b
      · rw [decide_eq_true he]
        have hx9 : x = some m := by rw [← HX.out, ← HD.out]; simp [hr, he]
        subst hx9
        have hresW := (HB4.out.block w.heap.size (by omega)).trans HRES3.out
        have HRW := uhid hresW
        have hrowE := setRow_heap w5 w.heap.size _ L.toArray _ _ hresW
        have hbw5 : Below w.heap.size w w5 := HBW3.out.trans (HB4.out.mono HBW3.out.size)
        have hbE : Below w.heap.size w (w5.setRow w.heap.size L.toArray) := srow_below hbw5 _ (Nat.le_refl _) _
        have hNE : NumsAt (w5.setRow w.heap.size L.toArray) ua m.unk.length m.unk := (HNS.out.later HB4.out).setRow (fun b' off' e => by have := HUB.out b' off' e; omega)
        obtain ⟨E, hE⟩ : ∃ E, w5.setRow w.heap.size L.toArray = E := ⟨_, rfl⟩
        rw [hE] at hrowE hbE hNE
        have HE := uhid hE
        have HrowE := uhid hrowE
        have HbE := uhid hbE
        have HNE := uhid hNE
        clear hresW hrowE hbw5 hbE hNE hE he hr HX HD HOK HNS HP4 HB4 HN4l
        go_wp2_with fail
        refine (smust_ok 2 w5).mono ?_
        rintro e w6 ⟨⟨vv, rfl⟩, rfl⟩
        go_wp2_with (first
          | refine wpList_load_row rfl 29 _ rfl g rfl 29 _ (0, 0) _ HROW4.out Try.underlying29 rfl HL.out.inf ?_
          | (refine wpList_store_row rfl 29 (.tmp 1) (.tmp 16) rfl w.heap.size L.toArray rfl rfl 29 _ HRW.out HL.out.inf HL.out.sz HL.out.one ?_; rw [HE.out]))
        refine bodyPost_ret (results_cell_row rfl _ _ w.heap.size 29 _ (0, 0) _ rfl HrowE.out Try.underlying29 rfl HL.out.inf) rfl ?_
        exact ⟨HbE.out, ua, uc, by rw [HL.out.eq], HNE.out, (fun b' off' e => by have := HUB.out b' off' e; omega), HS.out⟩
      · rw [decide_eq_false he]
        have hx9 : x = none := by rw [← HX.out, ← HD.out]; simp [he]
        subst hx9
        have HBE := uhid (HBW3.out.trans (HB4.out.mono HBW3.out.size))
        clear HX HD
        go_wp2_with fail
        refine (smust_no 2 w5).mono ?_
        rintro e w6 ⟨rfl, rfl⟩
        go_wp2_with fail
        exact ⟨rfl, rfl, HBE.out⟩
    · have hr2 : rightS m = false := by
        cases hrr : rightS m with
        | false => rfl
        | true => exact absurd hrr hr
      refine (sencode_no m ua uc w3 HOK.out hr2).mono ?_
      rintro e w4 ⟨rfl, hb4⟩
      have HB4 := uhid hb4
      have hq4 : w4.cell? ⟨bb, 0, none⟩ = some (.slice a n c) := by rw [cell_of_row _ bb 0 _ _ (0, 0) (((HBW3.out.trans (hb4.mono HBW3.out.size)).block bb hbbl).trans HBX.out)]; rfl
      clear hb4
      go_wp2_with fail
      refine (same_any none a 0 0 n c [] b w4 ⟨rfl, .inl rfl⟩ (HB.out.later (HBW3.out.trans (HB4.out.mono HBW3.out.size)))).mono ?_
      rintro e w5 ⟨rfl, rfl⟩
      rw [decide_eq_false (show ¬ ([] : List UInt8) = b from fun e => by rw [← e] at hlen; simp at hlen)]
      have hx9 : x = none := by rw [← HX.out, ← HD.out]; simp [hr2]
      subst hx9
      have HBE := uhid (HBW3.out.trans (HB4.out.mono HBW3.out.size))
      clear HX HD
      go_wp2_with fail
      refine (smust_no 2 w5).mono ?_
      rintro e w6 ⟨rfl, rfl⟩
      go_wp2_with fail
      exact ⟨rfl, rfl, HBE.out⟩

theorem run_load29 (w : World) (g : Nat) (L : Array Value) (h : w.heap[g]? = some (.cells L 29 (0, 0))) (hi : (Try.prog.info? 29).map (·.size) = some L.size) : (loadVar 29 ⟨g, 0, none⟩).run Try.prog w = .ok (.agg L) w :=
  run_loadVar_row w g 29 29 L (0, 0) _ h Try.underlying29 rfl hi
theorem run_load33 (w : World) (g : Nat) (er : Int) (h : w.cell? ⟨g, 0, none⟩ = some (.int .i64 er)) : (loadVar 33 ⟨g, 0, none⟩).run Try.prog w = .ok (.int .i64 er) w := by
  simp [go_sem, h]
theorem results_me {fn : Func} {p q : Tmp} (h : fn.results = #[.cell p 29, .cell q 33]) (tmps : Array Value) (w : World) (g1 g2 : Nat) (A : Array Value) (er : Int)
    (hp : tmps.getD p undef = .pointer (some ⟨g1, 0, none⟩)) (hq : tmps.getD q undef = .pointer (some ⟨g2, 0, none⟩)) (h1 : w.heap[g1]? = some (.cells A 29 (0, 0))) (h2 : w.cell? ⟨g2, 0, none⟩ = some (.int .i64 er))
    (hi : (Try.prog.info? 29).map (·.size) = some A.size) : (results fn tmps).run Try.prog w = .ok (.tuple #[.agg A, .int .i64 er]) w := by
  have hp' : tmps[p]?.getD undef = .pointer (some ⟨g1, 0, none⟩) := by simpa using hp
  have hq' : tmps[q]?.getD undef = .pointer (some ⟨g2, 0, none⟩) := by simpa using hq
  simp [results, h, hp', hq', asAddr, run_load29 w g1 A h1 hi, run_load33 w g2 er h2]
theorem results_mt {fn : Func} {p u : Tmp} (h : fn.results = #[.cell p 29, .tmp u]) (tmps : Array Value) (w : World) (g : Nat) (A : Array Value) (v : Value)
    (hp : tmps.getD p undef = .pointer (some ⟨g, 0, none⟩)) (hv : tmps.getD u undef = v) (h1 : w.heap[g]? = some (.cells A 29 (0, 0)))
    (hi : (Try.prog.info? 29).map (·.size) = some A.size) : (results fn tmps).run Try.prog w = .ok (.tuple #[.agg A, v]) w := by
  have hp' : tmps[p]?.getD undef = .pointer (some ⟨g, 0, none⟩) := by simpa using hp
  have hv' : tmps[u]?.getD undef = v := by simpa using hv
  simp [results, h, hp', hv', asAddr, run_load29 w g A h1 hi]

set_option maxHeartbeats 2000000 in
theorem caughtM_ok (cap : Array Value) (w : World) (m : SM) (R : Option Addr → Nat → World → Prop)
    (hdo : Calls Try.prog 33 cap ((w.alloc (.cells #[.int .i64 0, .int .u8 0, .int .u8 0, .int .u8 0, .int .u8 0, .int .u8 0, .int .u8 0, .int .u8 0, .int .u8 0, .int .u8 0, .int .u8 0, .int .u8 0, .int .u8 0, .int .u32 0, .int .i64 0, .string ⟨#[]⟩, .int .i64 0, .string ⟨#[]⟩, .slice none 0 0] 29)).alloc (.cells #[.int .i64 0] 33)) fun e w' => ∃ ua uc, e = .returned (.agg (sMsg m ua uc)) ∧ Below (w.heap.size + 1 + 1) ((w.alloc (.cells #[.int .i64 0, .int .u8 0, .int .u8 0, .int .u8 0, .int .u8 0, .int .u8 0, .int .u8 0, .int .u8 0, .int .u8 0, .int .u8 0, .int .u8 0, .int .u8 0, .int .u8 0, .int .u32 0, .int .i64 0, .string ⟨#[]⟩, .int .i64 0, .string ⟨#[]⟩, .slice none 0 0] 29)).alloc (.cells #[.int .i64 0] 33)) w' ∧ (∀ L : List Value, R ua uc ((w'.setRow w.heap.size L.toArray).setCell ⟨w.heap.size + 1, 0, none⟩ (.int .i64 0)))) :
    Calls Try.prog 32 #[.func (.func 33) #[] cap] w fun e w' => ∃ ua uc, e = .returned (.tuple #[.agg (sMsg m ua uc), .int .i64 0]) ∧ R ua uc w' := by
  have hmf : ∀ (fn : Fn) (first cap : Array Value) (w : World), (Instr.makeFunc fn first cap).run Try.prog w = .ok (.func fn first cap) w := fun _ _ _ _ => rfl
  have h1 := heap_alloc_new w (.cells #[.int .i64 0, .int .u8 0, .int .u8 0, .int .u8 0, .int .u8 0, .int .u8 0, .int .u8 0, .int .u8 0, .int .u8 0, .int .u8 0, .int .u8 0, .int .u8 0, .int .u8 0, .int .u32 0, .int .i64 0, .string ⟨#[]⟩, .int .i64 0, .string ⟨#[]⟩, .slice none 0 0] 29)
  have hs1 : (w.alloc (.cells #[.int .i64 0, .int .u8 0, .int .u8 0, .int .u8 0, .int .u8 0, .int .u8 0, .int .u8 0, .int .u8 0, .int .u8 0, .int .u8 0, .int .u8 0, .int .u8 0, .int .u8 0, .int .u32 0, .int .i64 0, .string ⟨#[]⟩, .int .i64 0, .string ⟨#[]⟩, .slice none 0 0] 29)).heap.size = w.heap.size + 1 := by rw [World.size_alloc]
  obtain ⟨w1, hw1⟩ : ∃ w1, w.alloc (.cells #[.int .i64 0, .int .u8 0, .int .u8 0, .int .u8 0, .int .u8 0, .int .u8 0, .int .u8 0, .int .u8 0, .int .u8 0, .int .u8 0, .int .u8 0, .int .u8 0, .int .u8 0, .int .u32 0, .int .i64 0, .string ⟨#[]⟩, .int .i64 0, .string ⟨#[]⟩, .slice none 0 0] 29) = w1 := ⟨_, rfl⟩
  rw [hw1] at h1 hs1 hdo
  have h2 := heap_alloc_new w1 (.cells #[.int .i64 0] 33)
  have hs2 : (w1.alloc (.cells #[.int .i64 0] 33)).heap.size = w.heap.size + 1 + 1 := by rw [World.size_alloc, hs1]
  have h1' : (w1.alloc (.cells #[.int .i64 0] 33)).heap[w.heap.size]? = some (.cells #[.int .i64 0, .int .u8 0, .int .u8 0, .int .u8 0, .int .u8 0, .int .u8 0, .int .u8 0, .int .u8 0, .int .u8 0, .int .u8 0, .int .u8 0, .int .u8 0, .int .u8 0, .int .u32 0, .int .i64 0, .string ⟨#[]⟩, .int .i64 0, .string ⟨#[]⟩, .slice none 0 0] 29 (0, 0)) := by rw [Below.heap_alloc w1 _ _ (by omega)]; exact h1
  rw [hs1] at h2
  have HDO := uhid hdo
  have HW1 := uhid hw1
  have H1 := uhid h1'
  have H2 := uhid h2
  clear hdo hw1 h1 h1' h2
  go_enter_defers Try.func32, Try.ntmps32
  refine wp_seq (wp_cut (fun A W => A = { tmps := #[.func (.func 33) #[] cap, undef, .pointer (some ⟨w.heap.size, 0, none⟩), .pointer (some ⟨w.heap.size + 1, 0, none⟩), undef, undef, undef], defers := [] } ∧ W = w1.alloc (.cells #[.int .i64 0] 33)) ?_ ?_)
  · go_wp2
    all_goals first | exact ⟨rfl, by rw [← HW1.out]⟩ | exact ⟨by rw [hs1], by rw [← HW1.out]⟩ | rw [← HW1.out]
  rintro A W ⟨rfl, rfl⟩
  simp only [Exit.then]
  go_wp2_with fail
  refine (HDO.out).mono ?_
  rintro e w2 ⟨ua, uc, rfl, hb, hR⟩
  obtain ⟨L, hL⟩ := msgL m ua uc
  have HL := uhid hL
  clear hL
  have r1 := (hb.block w.heap.size (by omega)).trans H1.out
  have r2 := (hb.block (w.heap.size + 1) (by omega)).trans H2.out
  have hrw := setRow_heap w2 w.heap.size _ L.toArray _ _ r1
  have r2' : (w2.setRow w.heap.size L.toArray).heap[w.heap.size + 1]? = some (.cells #[.int .i64 0] 33 (0, 0)) := (setRow_other w2 w.heap.size _ _ (by omega)).trans r2
  obtain ⟨w3, hw3⟩ : ∃ w3, w2.setRow w.heap.size L.toArray = w3 := ⟨_, rfl⟩
  have hR3 := hR L
  rw [hw3] at hrw r2' hR3
  have q1 : w3.cell? ⟨w.heap.size + 1, 0, none⟩ = some (.int .i64 0) := by rw [cell_of_row w3 _ 0 _ _ (0, 0) r2']; rfl
  have f1 : w3.frozen? ⟨w.heap.size + 1, 0, none⟩ = false := frozen_of_row w3 _ 0 _ _ r2'
  have hc3 : (w3.setCell ⟨w.heap.size + 1, 0, none⟩ (.int .i64 0)).cell? ⟨w.heap.size + 1, 0, none⟩ = some (.int .i64 0) := scell_same q1
  have hrw4 := (heap_setCell_other w3 ⟨w.heap.size + 1, 0, none⟩ w.heap.size (.int .i64 0) (by show w.heap.size ≠ w.heap.size + 1; omega)).trans hrw
  have HR := uhid hR3
  have HW3 := uhid hw3
  have R1 := uhid r1
  have HRW4 := uhid hrw4
  clear hR hR3 HDO hb r2 r2' hrw hw3 r1 hrw4 H1 H2
  go_wp2_with (refine wpList_store_row rfl 29 (.tmp 2) (.tmp 6) rfl w.heap.size L.toArray rfl (by rw [← HL.out.eq]; rfl) 29 _ R1.out HL.out.inf HL.out.sz HL.out.one ?_; rw [HW3.out])
  obtain ⟨U, hU⟩ : ∃ U, w3.setCell ⟨w.heap.size + 1, 0, none⟩ (.int .i64 0) = U := ⟨_, rfl⟩
  rw [hU] at hc3 HR HRW4
  rw [hU]
  clear hU q1 f1
  refine leaves_cons (f := 46) (args := #[.pointer (some ⟨w.heap.size + 1, 0, none⟩)]) (by simp) (by simp [go_sem]) ?_
  refine (mcatch_ok (w.heap.size + 1) U).mono ?_
  rintro e u' w'' ⟨rfl, rfl, rfl⟩
  have hld := run_load29 w'' w.heap.size _ HRW4.out HL.out.inf
  simp only [settle, Leaves]
  refine ⟨.tuple #[.agg L.toArray, .int .i64 0], ?_, ?_⟩
  · exact results_me Try.results32 _ _ _ _ _ _ rfl rfl HRW4.out hc3 HL.out.inf
  · exact ⟨ua, uc, by rw [HL.out.eq], HR.out⟩

set_option maxHeartbeats 2000000 in
theorem caughtM_no (cap : Array Value) (w : World) (er : Nat)
    (hdo : Calls Try.prog 33 cap ((w.alloc (.cells #[.int .i64 0, .int .u8 0, .int .u8 0, .int .u8 0, .int .u8 0, .int .u8 0, .int .u8 0, .int .u8 0, .int .u8 0, .int .u8 0, .int .u8 0, .int .u8 0, .int .u8 0, .int .u32 0, .int .i64 0, .string ⟨#[]⟩, .int .i64 0, .string ⟨#[]⟩, .slice none 0 0] 29)).alloc (.cells #[.int .i64 0] 33)) fun e w' => e = span er ∧ Below (w.heap.size + 1 + 1) ((w.alloc (.cells #[.int .i64 0, .int .u8 0, .int .u8 0, .int .u8 0, .int .u8 0, .int .u8 0, .int .u8 0, .int .u8 0, .int .u8 0, .int .u8 0, .int .u8 0, .int .u8 0, .int .u8 0, .int .u32 0, .int .i64 0, .string ⟨#[]⟩, .int .i64 0, .string ⟨#[]⟩, .slice none 0 0] 29)).alloc (.cells #[.int .i64 0] 33)) w') :
    Calls Try.prog 32 #[.func (.func 33) #[] cap] w fun e w' => e = .returned (.tuple #[.agg (sMsg (sZero 0 (List.replicate 12 0)) none 0), .int .i64 (er : Int)]) ∧ Below w.heap.size w w' := by
  have hmf : ∀ (fn : Fn) (first cap : Array Value) (w : World), (Instr.makeFunc fn first cap).run Try.prog w = .ok (.func fn first cap) w := fun _ _ _ _ => rfl
  have h1 := heap_alloc_new w (.cells #[.int .i64 0, .int .u8 0, .int .u8 0, .int .u8 0, .int .u8 0, .int .u8 0, .int .u8 0, .int .u8 0, .int .u8 0, .int .u8 0, .int .u8 0, .int .u8 0, .int .u8 0, .int .u32 0, .int .i64 0, .string ⟨#[]⟩, .int .i64 0, .string ⟨#[]⟩, .slice none 0 0] 29)
  have hs1 : (w.alloc (.cells #[.int .i64 0, .int .u8 0, .int .u8 0, .int .u8 0, .int .u8 0, .int .u8 0, .int .u8 0, .int .u8 0, .int .u8 0, .int .u8 0, .int .u8 0, .int .u8 0, .int .u8 0, .int .u32 0, .int .i64 0, .string ⟨#[]⟩, .int .i64 0, .string ⟨#[]⟩, .slice none 0 0] 29)).heap.size = w.heap.size + 1 := by rw [World.size_alloc]
  have hb1 : Below w.heap.size w (w.alloc (.cells #[.int .i64 0, .int .u8 0, .int .u8 0, .int .u8 0, .int .u8 0, .int .u8 0, .int .u8 0, .int .u8 0, .int .u8 0, .int .u8 0, .int .u8 0, .int .u8 0, .int .u8 0, .int .u32 0, .int .i64 0, .string ⟨#[]⟩, .int .i64 0, .string ⟨#[]⟩, .slice none 0 0] 29)) := (Below.refl _ _).alloc (Nat.le_refl _) _
  obtain ⟨w1, hw1⟩ : ∃ w1, w.alloc (.cells #[.int .i64 0, .int .u8 0, .int .u8 0, .int .u8 0, .int .u8 0, .int .u8 0, .int .u8 0, .int .u8 0, .int .u8 0, .int .u8 0, .int .u8 0, .int .u8 0, .int .u8 0, .int .u32 0, .int .i64 0, .string ⟨#[]⟩, .int .i64 0, .string ⟨#[]⟩, .slice none 0 0] 29) = w1 := ⟨_, rfl⟩
  rw [hw1] at h1 hs1 hdo hb1
  have h2 := heap_alloc_new w1 (.cells #[.int .i64 0] 33)
  have hs2 : (w1.alloc (.cells #[.int .i64 0] 33)).heap.size = w.heap.size + 1 + 1 := by rw [World.size_alloc, hs1]
  have h1' : (w1.alloc (.cells #[.int .i64 0] 33)).heap[w.heap.size]? = some (.cells #[.int .i64 0, .int .u8 0, .int .u8 0, .int .u8 0, .int .u8 0, .int .u8 0, .int .u8 0, .int .u8 0, .int .u8 0, .int .u8 0, .int .u8 0, .int .u8 0, .int .u8 0, .int .u32 0, .int .i64 0, .string ⟨#[]⟩, .int .i64 0, .string ⟨#[]⟩, .slice none 0 0] 29 (0, 0)) := by rw [Below.heap_alloc w1 _ _ (by omega)]; exact h1
  rw [hs1] at h2
  have HDO := uhid hdo
  have HW1 := uhid hw1
  have H1 := uhid h1'
  have H2 := uhid h2
  have HB1 := uhid (hb1.alloc (by omega) (.cells #[.int .i64 0] 33))
  clear hdo hw1 h1 h1' h2 hb1
  go_enter_defers Try.func32, Try.ntmps32
  refine wp_seq (wp_cut (fun A W => A = { tmps := #[.func (.func 33) #[] cap, undef, .pointer (some ⟨w.heap.size, 0, none⟩), .pointer (some ⟨w.heap.size + 1, 0, none⟩), undef, undef, undef], defers := [] } ∧ W = w1.alloc (.cells #[.int .i64 0] 33)) ?_ ?_)
  · go_wp2
    all_goals first | exact ⟨rfl, by rw [← HW1.out]⟩ | exact ⟨by rw [hs1], by rw [← HW1.out]⟩ | rw [← HW1.out]
  rintro A W ⟨rfl, rfl⟩
  simp only [Exit.then]
  go_wp2_with fail
  refine (HDO.out).mono ?_
  rintro e w2 ⟨rfl, hb⟩
  have r1 := (hb.block w.heap.size (by omega)).trans H1.out
  have r2 := (hb.block (w.heap.size + 1) (by omega)).trans H2.out
  have q1 : w2.cell? ⟨w.heap.size + 1, 0, none⟩ = some (.int .i64 0) := by rw [cell_of_row w2 _ 0 _ _ (0, 0) r2]; rfl
  have f1 : w2.frozen? ⟨w.heap.size + 1, 0, none⟩ = false := frozen_of_row w2 _ 0 _ _ r2
  have hc3 : (w2.setCell ⟨w.heap.size + 1, 0, none⟩ (.int .i64 (er : Int))).cell? ⟨w.heap.size + 1, 0, none⟩ = some (.int .i64 (er : Int)) := scell_same q1
  have hrw4 := (heap_setCell_other w2 ⟨w.heap.size + 1, 0, none⟩ w.heap.size (.int .i64 (er : Int)) (by show w.heap.size ≠ w.heap.size + 1; omega)).trans r1
  have HBE : Hid (Below w.heap.size w (w2.setCell ⟨w.heap.size + 1, 0, none⟩ (.int .i64 (er : Int)))) := uhid ((HB1.out.trans (hb.mono (by omega))).setCell (p := ⟨w.heap.size + 1, 0, none⟩) (by show w.heap.size ≤ w.heap.size + 1; omega) _)
  have HRW4 := uhid hrw4
  clear HDO hb r2 r1 hrw4 H1 H2 HB1
  go_wp2_with fail
  refine leaves_cons (f := 46) (args := #[.pointer (some ⟨w.heap.size + 1, 0, none⟩)]) (by simp) (by simp [go_sem]) ?_
  refine (mcatch_no (w.heap.size + 1) er [] w2 q1 f1).mono ?_
  rintro e u' w'' ⟨rfl, rfl, rfl⟩
  obtain ⟨Z, hZ⟩ : ∃ Z, w2.setCell ⟨w.heap.size + 1, 0, none⟩ (.int .i64 (er : Int)) = Z := ⟨_, rfl⟩
  rw [hZ] at hc3 HBE HRW4
  rw [hZ]
  clear hZ q1 f1
  simp only [settle, Leaves, List.dropWhile_nil]
  refine ⟨.tuple #[.agg #[.int .i64 0, .int .u8 0, .int .u8 0, .int .u8 0, .int .u8 0, .int .u8 0, .int .u8 0, .int .u8 0, .int .u8 0, .int .u8 0, .int .u8 0, .int .u8 0, .int .u8 0, .int .u32 0, .int .i64 0, .string ⟨#[]⟩, .int .i64 0, .string ⟨#[]⟩, .slice none 0 0], .int .i64 (er : Int)], ?_, ?_⟩
  · exact results_me Try.results32 _ _ _ _ _ _ rfl rfl HRW4.out hc3 (by kernel_rfl)
  · exact ⟨rfl, HBE.out⟩

/-- How Decode ends. -/
def SDecEnd (w : World) (x : Option SM) (e : Ending) (w' : World) : Prop :=
  match x with
  | none => e = .returned (.tuple #[.agg (sMsg (sZero 0 (List.replicate 12 0)) none 0), .int .i64 2]) ∧ Below w.heap.size w w'
  | some m => ∃ ua uc, e = .returned (.tuple #[.agg (sMsg m ua uc), .int .i64 0]) ∧ Below w.heap.size w w' ∧ NumsAt w' ua m.unk.length m.unk ∧ Sane 1000 m
set_option maxHeartbeats 2000000 in
theorem sdecode_any (a : Option Addr) (n c : Nat) (b : List UInt8) (w : World) (hB : Byt w a n b) (hnc : n ≤ c) (hcm : c ≤ maxLen) (hnil : a = none → c = 0) (hb : n ≤ 1000) :
    Calls Try.prog 16 #[.slice a n c] w fun e w' => SDecEnd w (decS b) e w' := by
  have hmf : ∀ (fn : Fn) (first cap : Array Value) (w : World), (Instr.makeFunc fn first cap).run Try.prog w = .ok (.func fn first cap) w := fun _ _ _ _ => rfl
  obtain ⟨x, hx⟩ : ∃ x, decS b = x := ⟨_, rfl⟩
  rw [hx]
  have HX := uhid hx
  clear hx
  have h1 := heap_alloc_new w (.cells #[.slice a n c] 32)
  have hs1 : (w.alloc (.cells #[.slice a n c] 32)).heap.size = w.heap.size + 1 := by rw [World.size_alloc]
  have hb1 : Below w.heap.size w (w.alloc (.cells #[.slice a n c] 32)) := (Below.refl _ _).alloc (Nat.le_refl _) _
  obtain ⟨w1, hw1⟩ : ∃ w1, w.alloc (.cells #[.slice a n c] 32) = w1 := ⟨_, rfl⟩
  rw [hw1] at h1 hs1 hb1
  have h2 := heap_alloc_new w1 (.cells #[.int .i64 0, .int .u8 0, .int .u8 0, .int .u8 0, .int .u8 0, .int .u8 0, .int .u8 0, .int .u8 0, .int .u8 0, .int .u8 0, .int .u8 0, .int .u8 0, .int .u8 0, .int .u32 0, .int .i64 0, .string ⟨#[]⟩, .int .i64 0, .string ⟨#[]⟩, .slice none 0 0] 29)
  have hs2 : (w1.alloc (.cells #[.int .i64 0, .int .u8 0, .int .u8 0, .int .u8 0, .int .u8 0, .int .u8 0, .int .u8 0, .int .u8 0, .int .u8 0, .int .u8 0, .int .u8 0, .int .u8 0, .int .u8 0, .int .u32 0, .int .i64 0, .string ⟨#[]⟩, .int .i64 0, .string ⟨#[]⟩, .slice none 0 0] 29)).heap.size = w.heap.size + 1 + 1 := by rw [World.size_alloc, hs1]
  have hb2 : Below w1.heap.size w1 (w1.alloc (.cells #[.int .i64 0, .int .u8 0, .int .u8 0, .int .u8 0, .int .u8 0, .int .u8 0, .int .u8 0, .int .u8 0, .int .u8 0, .int .u8 0, .int .u8 0, .int .u8 0, .int .u8 0, .int .u32 0, .int .i64 0, .string ⟨#[]⟩, .int .i64 0, .string ⟨#[]⟩, .slice none 0 0] 29)) := (Below.refl _ _).alloc (Nat.le_refl _) _
  rw [hs1] at h2
  obtain ⟨w2, hw2⟩ : ∃ w2, w1.alloc (.cells #[.int .i64 0, .int .u8 0, .int .u8 0, .int .u8 0, .int .u8 0, .int .u8 0, .int .u8 0, .int .u8 0, .int .u8 0, .int .u8 0, .int .u8 0, .int .u8 0, .int .u8 0, .int .u32 0, .int .i64 0, .string ⟨#[]⟩, .int .i64 0, .string ⟨#[]⟩, .slice none 0 0] 29) = w2 := ⟨_, rfl⟩
  rw [hw2] at h2 hs2 hb2
  have hbox : w2.heap[w.heap.size]? = some (.cells #[.slice a n c] 32 (0, 0)) := (hb2.block _ (by omega)).trans h1
  have hbw2 : Below w.heap.size w w2 := hb1.trans (hb2.mono hb1.size)
  have HW1 := uhid hw1
  have HW2 := uhid hw2
  have H2 := uhid h2
  have HBOX := uhid hbox
  have HBW2 := uhid hbw2
  have HB := uhid hB
  clear h1 hb1 hw1 h2 hb2 hw2 hbox hbw2 hB
  go_enter Try.func16, Try.ntmps16
  refine wp_seq (wp_cut (fun A W => A = { tmps := #[.slice a n c, .pointer (some ⟨w.heap.size, 0, none⟩), .pointer (some ⟨w.heap.size + 1, 0, none⟩), .int .i64 0, undef, undef, undef, undef], defers := [] } ∧ W = w2) ?_ ?_)
  · go_wp2
    all_goals first | exact ⟨rfl, by rw [HW1.out, HW2.out]⟩ | rw [HW1.out, HW2.out]
  rintro A W ⟨rfl, rfl⟩
  simp only [Exit.then]
  go_wp2_with fail
  clear hmf
  -- the world in which the closure is called
  have hbc1 : Below W.heap.size W (W.alloc (.cells #[.int .i64 0, .int .u8 0, .int .u8 0, .int .u8 0, .int .u8 0, .int .u8 0, .int .u8 0, .int .u8 0, .int .u8 0, .int .u8 0, .int .u8 0, .int .u8 0, .int .u8 0, .int .u32 0, .int .i64 0, .string ⟨#[]⟩, .int .i64 0, .string ⟨#[]⟩, .slice none 0 0] 29)) := (Below.refl _ _).alloc (Nat.le_refl _) _
  have hbc : Below W.heap.size W ((W.alloc (.cells #[.int .i64 0, .int .u8 0, .int .u8 0, .int .u8 0, .int .u8 0, .int .u8 0, .int .u8 0, .int .u8 0, .int .u8 0, .int .u8 0, .int .u8 0, .int .u8 0, .int .u8 0, .int .u32 0, .int .i64 0, .string ⟨#[]⟩, .int .i64 0, .string ⟨#[]⟩, .slice none 0 0] 29)).alloc (.cells #[.int .i64 0] 33)) := hbc1.alloc hbc1.size _
  have hsc : ((W.alloc (.cells #[.int .i64 0, .int .u8 0, .int .u8 0, .int .u8 0, .int .u8 0, .int .u8 0, .int .u8 0, .int .u8 0, .int .u8 0, .int .u8 0, .int .u8 0, .int .u8 0, .int .u8 0, .int .u32 0, .int .i64 0, .string ⟨#[]⟩, .int .i64 0, .string ⟨#[]⟩, .slice none 0 0] 29)).alloc (.cells #[.int .i64 0] 33)).heap.size = W.heap.size + 1 + 1 := by rw [World.size_alloc, World.size_alloc]
  have hboxc := (hbc.block w.heap.size (by omega)).trans HBOX.out
  have hd := dec1_any w.heap.size a n c b _ hboxc (HB.out.later (HBW2.out.trans (hbc.mono HBW2.out.size))) hnc hcm hnil hb
  rw [HX.out] at hd
  cases x with
  | none =>
    refine (caughtM_no #[.pointer (some ⟨w.heap.size, 0, none⟩)] W 2 (hd.mono ?_)).mono ?_
    · rintro e w9 ⟨rfl, hb9⟩
      rw [hsc] at hb9
      exact ⟨rfl, hb9⟩
    rintro e w9 ⟨rfl, hb9⟩
    obtain ⟨L, hL⟩ := msgL (sZero 0 (List.replicate 12 0)) none 0
    have r9 := (hb9.block (w.heap.size + 1) (by omega)).trans H2.out
    have hrw := setRow_heap w9 (w.heap.size + 1) _ L.toArray _ _ r9
    have hbE : Below w.heap.size w (w9.setRow (w.heap.size + 1) L.toArray) := srow_below (HBW2.out.trans (hb9.mono HBW2.out.size)) _ (by omega) _
    obtain ⟨E, hE⟩ : ∃ E, w9.setRow (w.heap.size + 1) L.toArray = E := ⟨_, rfl⟩
    rw [hE] at hrw hbE
    have R9 := uhid r9
    have HL := uhid hL
    have HRW := uhid hrw
    have HBE := uhid hbE
    have HE := uhid hE
    clear hbc1 hbc hsc hboxc hd hb9 r9 hL hrw hbE hE H2 HBOX
    rw [HL.out.eq]
    go_wp2_with (refine wpList_store_row rfl 29 (.tmp 2) (.tmp 6) rfl (w.heap.size + 1) L.toArray rfl rfl 29 _ R9.out HL.out.inf HL.out.sz HL.out.one ?_; rw [HE.out])
    refine bodyPost_ret (results_mt rfl _ _ (w.heap.size + 1) L.toArray _ rfl rfl HRW.out HL.out.inf) rfl ?_
    exact ⟨by rw [HL.out.eq]; rfl, HBE.out⟩
  | some m =>
    have hd2 : Calls Try.prog 33 #[.pointer (some ⟨w.heap.size, 0, none⟩)] ((W.alloc (.cells #[.int .i64 0, .int .u8 0, .int .u8 0, .int .u8 0, .int .u8 0, .int .u8 0, .int .u8 0, .int .u8 0, .int .u8 0, .int .u8 0, .int .u8 0, .int .u8 0, .int .u8 0, .int .u32 0, .int .i64 0, .string ⟨#[]⟩, .int .i64 0, .string ⟨#[]⟩, .slice none 0 0] 29)).alloc (.cells #[.int .i64 0] 33)) fun e w' => ∃ ua uc, e = .returned (.agg (sMsg m ua uc)) ∧ Below (W.heap.size + 1 + 1) ((W.alloc (.cells #[.int .i64 0, .int .u8 0, .int .u8 0, .int .u8 0, .int .u8 0, .int .u8 0, .int .u8 0, .int .u8 0, .int .u8 0, .int .u8 0, .int .u8 0, .int .u8 0, .int .u8 0, .int .u32 0, .int .i64 0, .string ⟨#[]⟩, .int .i64 0, .string ⟨#[]⟩, .slice none 0 0] 29)).alloc (.cells #[.int .i64 0] 33)) w' ∧ NumsAt w' ua m.unk.length m.unk ∧ (∀ b off, ua = some ⟨b, off, none⟩ → W.heap.size + 1 + 1 ≤ b) ∧ Sane 1000 m := by
      refine hd.mono ?_
      rintro e w9 ⟨hb9, ua, uc, rfl, hN, hub, hS⟩
      rw [hsc] at hb9 hub
      exact ⟨ua, uc, rfl, hb9, hN, hub, hS⟩
    refine (caughtM_ok #[.pointer (some ⟨w.heap.size, 0, none⟩)] W m (fun ua uc W' => Below W.heap.size W W' ∧ NumsAt W' ua m.unk.length m.unk ∧ (∀ b off, ua = some ⟨b, off, none⟩ → W.heap.size + 1 + 1 ≤ b) ∧ Sane 1000 m) (hd2.mono ?_)).mono ?_
    · rintro e w9 ⟨ua, uc, rfl, hb9, hN, hub, hS⟩
      refine ⟨ua, uc, rfl, hb9, fun L => ⟨?_, ?_, hub, hS⟩⟩
      · exact (srow_below (hbc.trans (hb9.mono (by omega))) _ (Nat.le_refl _) _).setCell (p := ⟨W.heap.size + 1, 0, none⟩) (by show W.heap.size ≤ W.heap.size + 1; omega) _
      · exact (hN.setRow (fun b' off' e => by have := hub b' off' e; omega)).setAt (fun b' off' e => by have := hub b' off' e; omega)
    rintro e w9 ⟨ua, uc, rfl, hb9, hN, hub, hS⟩
    obtain ⟨L, hL⟩ := msgL m ua uc
    have r9 := (hb9.block (w.heap.size + 1) (by omega)).trans H2.out
    have hrw := setRow_heap w9 (w.heap.size + 1) _ L.toArray _ _ r9
    have hbE : Below w.heap.size w (w9.setRow (w.heap.size + 1) L.toArray) := srow_below (HBW2.out.trans (hb9.mono HBW2.out.size)) _ (by omega) _
    have hNE : NumsAt (w9.setRow (w.heap.size + 1) L.toArray) ua m.unk.length m.unk := hN.setRow (fun b' off' e => by have := hub b' off' e; omega)
    obtain ⟨E, hE⟩ : ∃ E, w9.setRow (w.heap.size + 1) L.toArray = E := ⟨_, rfl⟩
    rw [hE] at hrw hbE hNE
    have R9 := uhid r9
    have HL := uhid hL
    have HRW := uhid hrw
    have HBE := uhid hbE
    have HNE := uhid hNE
    have HE := uhid hE
    have HSS := uhid hS
    clear hbc1 hbc hsc hboxc hd hd2 hb9 r9 hL hrw hbE hE H2 HBOX hN hub hS hNE
    rw [HL.out.eq]
    go_wp2_with (refine wpList_store_row rfl 29 (.tmp 2) (.tmp 6) rfl (w.heap.size + 1) L.toArray rfl rfl 29 _ R9.out HL.out.inf HL.out.sz HL.out.one ?_; rw [HE.out])
    refine bodyPost_ret (results_mt rfl _ _ (w.heap.size + 1) L.toArray _ rfl rfl HRW.out HL.out.inf) rfl ?_
    exact ⟨ua, uc, by rw [HL.out.eq]; rfl, HBE.out, HNE.out, HSS.out⟩
end Go.Proofs.Ytejbhjcopldekaa
