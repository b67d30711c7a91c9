/- The program's attributes (stage 12). -/
import Derived.Test.YtejbhjcopldekaaStuE
import Derived.Test.YtejbhjcopldekaaMathStuD
namespace Go.Proofs.Ytejbhjcopldekaa
set_option linter.unusedVariables false
set_option maxRecDepth 100000
open Go.RowKit

def sNums (l : List Int) : List UInt8 := sBody (l.map fun n => (n.toNat, []))
theorem sNums_length (l : List Int) : (sNums l).length = 4 * l.length := sBody_nums l
theorem sNums_take (l : List Int) (k : Nat) (h : k < l.length) : sNums (l.take (k + 1)) = sNums (l.take k) ++ sAttr ((l[k]'h).toNat, []) := by
  unfold sNums
  rw [List.take_succ_eq_append_getElem h, List.map_append, sBody_append]
  simp [sBody]
def softB (m : SM) : List UInt8 := sBody (if m.soft ≠ [] then [(32802, m.soft)] else [])
theorem attrs_req (m : SM) (h : m.cls = 0) : sBody m.attrs = [] ++ sNums m.unk ++ softB m := by
  unfold SM.attrs
  simp [h, sNums, softB, sBody]
theorem attrs_ans (m : SM) (h : m.cls = 2) : sBody m.attrs = ([] ++ sAttr (32, [0, 1] ++ putB 2 (m.port.toNat ^^^ 8466) true ++ putB 4 (m.host ^^^ 554869826) true)) ++ sNums m.unk ++ softB m := by
  unfold SM.attrs
  simp [h, sNums, softB, sBody]
theorem attrs_fail0 (m : SM) (h : m.cls = 3) (hu : m.unk = []) : sBody m.attrs = ([] ++ sAttr (9, [0, 0, UInt8.ofNat (m.code.toNat / 100), UInt8.ofNat (m.code.toNat % 100)] ++ m.reason)) ++ softB m := by
  unfold SM.attrs
  simp [h, hu, softB, sBody]
theorem attrs_fail (m : SM) (h : m.cls = 3) (hu : m.unk ≠ []) : sBody m.attrs = ([] ++ sAttr (9, [0, 0, UInt8.ofNat (m.code.toNat / 100), UInt8.ofNat (m.code.toNat % 100)] ++ m.reason)) ++ sAttr (10, sUnk m.unk) ++ softB m := by
  unfold SM.attrs
  simp [h, hu, softB, sBody]

set_option maxHeartbeats 1000000 in
theorem attributes_new (m : SM) (ua : Option Addr) (uc : Nat) (w : World) (hm : MOk w m ua uc) (h : m.Right) (hh : m.host < 4294967296) :
    Calls Try.prog 40 #[.agg (sMsg m ua uc)] w fun e w' => ∃ a n c, e = .returned (.slice a n c) ∧ n = (sBody m.attrs).length ∧ NewB w w' (.slice a n c) (sBody m.attrs) := by
  obtain ⟨BD, hBD⟩ : ∃ BD, sBody m.attrs = BD := ⟨_, rfl⟩
  have hsmall := body_small m h
  rw [hBD] at hsmall ⊢
  have HBD := uhid hBD
  have HSM := uhid hsmall
  clear hBD hsmall
  have hM := MBox.new w m ua uc
  have hb0 : Below w.heap.size w (w.alloc (.cells (sMsg m ua uc) 29)) := (Below.refl _ _).alloc (Nat.le_refl _) _
  have HSS := uhid (Ssize m.soft)
  have HSN := uhid (Snone m.soft)
  have HU := uhid hm.nums
  have HR := uhid h
  have hu20 := h.unk
  have hs100 := h.soft
  have hr100 := h.reason
  have HOk := uhid hm
  obtain ⟨arr, harr⟩ : ∃ arr, sMsg m ua uc = arr := ⟨_, rfl⟩
  have hsz : arr.size = 19 := by rw [← harr]; rfl
  have I29 : (Try.prog.info? 29).map (·.size) = some arr.size := by rw [hsz]; rfl
  have HI := uhid I29
  have HA := uhid harr
  have a0 : arr[0]? = some (.int .i64 m.cls) := by rw [← harr]; rfl
  have hblk := hM.blk
  have HAD := uhid hM.addr
  rw [harr] at HAD hb0 hblk ⊢
  have hM' := hM
  rw [harr] at hM'
  have HB0 := uhid hb0
  have HM0 := uhid hM'
  have HBLK := uhid hblk
  have h3c := h.cls
  clear hm I29 hsz hM hM' hb0 hblk harr h
  have hE0 : ∀ V : World, NewB V V (.slice none 0 0) [] := fun V => ⟨Below.refl _ _, rfl, .inl ⟨rfl, rfl⟩⟩
  have HE0 := uhid hE0
  clear hE0
  rcases h3c with c0 | c0 | c0
  · have hF : BD = [] ++ sNums m.unk ++ softB m := HBD.out.symm.trans (attrs_req m c0)
    have HF := uhid hF
    rw [c0] at a0
    have a18 : arr[18]? = some (.slice ua m.unk.length uc) := by rw [← HA.out]; rfl
    clear hF
    go_enter Try.func40, Try.ntmps40
    go_wp2_with fail
    obtain ⟨W, hW⟩ : ∃ W, w.alloc (.cells arr 29) = W := ⟨_, rfl⟩
    rw [hW] at HB0 HM0
    rw [hW]
    have hlt0 : w.heap.size < W.heap.size := HM0.out.lt
    clear hW HAD HBLK
    go_loopw [3, 36] (fun v i wr => ∃ (k n : Nat) (a : Option Addr) (c : Nat), k ≤ m.unk.length ∧ i = .int .i64 k ∧ v = .slice a n c ∧ n ≤ 12 + 4 * k ∧ Hid (n = ([] ++ sNums (m.unk.take k)).length) ∧ Hid (NewB W wr (.slice a n c) ([] ++ sNums (m.unk.take k)))) (fun _ i _ => m.unk.length - (intOf i).toNat)
    case atStart => exact ⟨0, 0, none, 0, Nat.zero_le _, rfl, rfl, by omega, uhid (by simp [sNums, sBody]), uhid (by simpa [sNums, sBody] using HE0.out W)⟩
    case round =>
      obtain ⟨k, n, a, c, hk, rfl, rfl, hn, HL, HN⟩ := hrel
      by_cases hlt : k < m.unk.length
      · have i1 : (k : Int) < (m.unk.length : Int) := by omega
        obtain ⟨b, off, eU, hbw, hc0⟩ := HU.out.at_ k hlt
        have hc := hc0
        rw [← (HB0.out.trans (HN.out.1.mono HB0.out.size)).cell (p := ⟨b, off + k, none⟩) hbw] at hc
        clear hc0
        have hx01 := HR.out.nums m.unk[k] (List.getElem_mem hlt)
        obtain ⟨x, hx⟩ : ∃ x : Nat, m.unk[k] = (x : Int) := ⟨m.unk[k].toNat, by omega⟩
        have HP1 := uhid (HN.out.at_ HL.out.symm)
        have HX : Hid ([] ++ sNums (m.unk.take k) ++ sAttr (x, []) = [] ++ sNums (m.unk.take (k + 1))) := uhid (by rw [sNums_take m.unk k hlt, hx]; simp)
        have hx9 : x < 65536 := by omega
        rw [hx] at hc
        rw [eU]
        clear hx hx01 eU
        go_wp2_with fail
        refine (sattr_new a n c ([] ++ sNums (m.unk.take k)) x hx9 none 0 0 [] wr (by omega) HP1.out.1 ⟨rfl, .inl rfl⟩ (fun _ => rfl) (by omega)).mono ?_
        rintro e w9 ⟨a9, n9, c9, rfl, hn9, hN9⟩
        have hn9' : n9 ≤ n + 4 := by rw [hn9, sAttr_length]; simp
        have HN9 := uhid (NewB.trans HN.out.1 hN9)
        rw [HX.out] at HN9
        have HL9 : Hid (n9 = ([] ++ sNums (m.unk.take (k + 1))).length) := uhid (by rw [← HX.out, List.length_append, ← HL.out, hn9])
        clear HN HL hN9 hn9 HX HP1
        go_wp2_with fail
        exact ⟨⟨k + 1, n9, a9, c9, by omega, by go_num, rfl, by omega, HL9, HN9⟩, by simp [intOf]; omega⟩
      · have i1 : ¬ (k : Int) < (m.unk.length : Int) := by omega
        have ek : m.unk.take k = m.unk := List.take_of_length_le (by omega)
        rw [ek] at HL HN
        have q15 := (HM0.out.later HN.out.1 hlt0 (Nat.le_refl _)).soft
        clear ek
        by_cases hs : m.soft = []
        · have h5 : (S m.soft).toList.isEmpty = true := by rw [HSN.out, hs]; rfl
          have hfin : BD = ([] ++ sNums m.unk) := by rw [HF.out, softB, if_neg (by simpa using hs)]; simp [sBody]
          have HFin : Hid (n = BD.length ∧ NewB w wr (.slice a n c) BD) := uhid ⟨by rw [hfin]; exact HL.out, by rw [hfin]; exact NewB.trans HB0.out HN.out⟩
          clear HN HL HF hs hfin
          go_wp2_with fail
          go_ret
          exact ⟨a, n, c, rfl, HFin.out.1, HFin.out.2⟩
        · have h5 : (S m.soft).toList.isEmpty = false := by rw [HSN.out]; exact decide_eq_false hs
          have hcv := str_conv wr m.soft
          rw [HSS.out] at hcv
          obtain ⟨gc, hgc⟩ : ∃ gc, grownCap wr m.soft.length 0 5 = gc := ⟨_, rfl⟩
          rw [hgc] at hcv
          have HP1 := uhid (HN.out.at_ HL.out.symm)
          have hfin : BD = ([] ++ sNums m.unk) ++ sAttr (32802, m.soft) := by rw [HF.out, softB, if_pos hs]; simp [sBody]
          have HFin := uhid hfin
          clear HF hs hfin hgc
          go_wp2_with fail
          refine (sattr_new a n c _ 32802 (by decide) _ m.soft.length gc m.soft _ (by omega) (HP1.out.1.later (str_below wr _ _)) (str_byt wr _ m.soft) (fun e => by cases e) (by omega)).mono ?_
          rintro e w9 ⟨a9, n9, c9, rfl, hn9, hN9⟩
          have HEnd : Hid (n9 = BD.length ∧ NewB w w9 (.slice a9 n9 c9) BD) := uhid ⟨by rw [HFin.out, List.length_append, hn9, HL.out], by rw [HFin.out]; exact NewB.trans HB0.out (NewB.trans (HN.out.1) (NewB.trans (str_below wr _ _) hN9))⟩
          clear HN HL hN9 hn9 HFin hcv HP1
          go_wp2_with fail
          go_ret
          exact ⟨a9, n9, c9, rfl, HEnd.out.1, HEnd.out.2⟩
  · have hF : BD = ([] ++ sAttr (32, [0, 1] ++ putB 2 (m.port.toNat ^^^ 8466) true ++ putB 4 (m.host ^^^ 554869826) true)) ++ sNums m.unk ++ softB m := HBD.out.symm.trans (attrs_ans m c0)
    obtain ⟨B1, hB1⟩ : ∃ B1, [] ++ sAttr (32, [0, 1] ++ putB 2 (m.port.toNat ^^^ 8466) true ++ putB 4 (m.host ^^^ 554869826) true) = B1 := ⟨_, rfl⟩
    rw [hB1] at hF
    have HF := uhid hF
    have HB1 := uhid hB1
    have hp0 := HR.out.p0
    have hp1 := HR.out.p1
    obtain ⟨p, hp⟩ : ∃ p : Nat, m.port = (p : Int) := ⟨m.port.toNat, by omega⟩
    rw [hp] at HAD
    have HPP := uhid hp
    have hp9 : p < 65536 := by omega
    rw [c0] at a0
    clear hF hB1 hp0 hp1 hp
    go_enter Try.func40, Try.ntmps40
    go_wp2_with (refine wpList_load_part rfl 26 (.tmp 11) rfl w.heap.size 13 rfl _ _ HAD.out Try.underlying26 rfl rfl ?_)
    obtain ⟨W, hW⟩ : ∃ W, w.alloc (.cells arr 29) = W := ⟨_, rfl⟩
    rw [hW] at HB0 HM0
    rw [hW]
    have hlt0 : w.heap.size < W.heap.size := HM0.out.lt
    clear hW HAD HBLK
    refine (smapped_new m.host p hh hp9 W).mono ?_
    rintro e w2 ⟨g2, rfl, hN2⟩
    have hN2b := (hN2.at_ (show ([0, 1] ++ putB 2 (p ^^^ 8466) true ++ putB 4 (m.host ^^^ 554869826) true).length = 8 by simp [putB_length])).1
    have HBW2 := uhid hN2.1
    have HN2b := uhid hN2b
    clear hN2 hN2b
    go_wp2_with fail
    refine (sattr_new none 0 0 [] 32 (by decide) _ 8 8 _ w2 (by omega) ⟨rfl, .inl rfl⟩ HN2b.out (fun e => by cases e) (by omega)).mono ?_
    rintro e w3 ⟨a3, n3, c3, rfl, hn3, hN3⟩
    have hpe : m.port.toNat = p := by rw [HPP.out]; rfl
    rw [← hpe, HB1.out] at hN3
    have hB1l : n3 = B1.length := by rw [hn3, ← HB1.out, hpe, List.length_append]; rfl
    have hn12 : n3 ≤ 12 := by rw [hn3, sAttr_length]; simp [putB_length]
    have HN3 := uhid (NewB.trans HBW2.out hN3)
    have HL3 := uhid hB1l
    have hM3 := HM0.out.later HN3.out.1 hlt0 (Nat.le_refl _)
    have q0 := hM3.cls
    have q18 := hM3.unk
    rw [c0] at q0
    clear hN3 hn3 hB1l hpe HPP HN2b HBW2 hM3 HB1
    go_wp2_with fail
    go_loopw [3, 36] (fun v i wr => ∃ (k n : Nat) (a : Option Addr) (c : Nat), k ≤ m.unk.length ∧ i = .int .i64 k ∧ v = .slice a n c ∧ n ≤ 12 + 4 * k ∧ Hid (n = (B1 ++ sNums (m.unk.take k)).length) ∧ Hid (NewB W wr (.slice a n c) (B1 ++ sNums (m.unk.take k)))) (fun _ i _ => m.unk.length - (intOf i).toNat)
    case atStart => exact ⟨0, n3, a3, c3, Nat.zero_le _, rfl, rfl, by omega, uhid (by simpa [sNums, sBody] using HL3.out), uhid (by simpa [sNums, sBody] using HN3.out)⟩
    case round =>
      obtain ⟨k, n, a, c, hk, rfl, rfl, hn, HL, HN⟩ := hrel
      by_cases hlt : k < m.unk.length
      · have i1 : (k : Int) < (m.unk.length : Int) := by omega
        obtain ⟨b, off, eU, hbw, hc0⟩ := HU.out.at_ k hlt
        have hc := hc0
        rw [← (HB0.out.trans (HN.out.1.mono HB0.out.size)).cell (p := ⟨b, off + k, none⟩) hbw] at hc
        clear hc0
        have hx01 := HR.out.nums m.unk[k] (List.getElem_mem hlt)
        obtain ⟨x, hx⟩ : ∃ x : Nat, m.unk[k] = (x : Int) := ⟨m.unk[k].toNat, by omega⟩
        have HP1 := uhid (HN.out.at_ HL.out.symm)
        have HX : Hid (B1 ++ sNums (m.unk.take k) ++ sAttr (x, []) = B1 ++ sNums (m.unk.take (k + 1))) := uhid (by rw [sNums_take m.unk k hlt, hx]; simp)
        have hx9 : x < 65536 := by omega
        rw [hx] at hc
        rw [eU]
        clear hx hx01 eU
        go_wp2_with fail
        refine (sattr_new a n c (B1 ++ sNums (m.unk.take k)) x hx9 none 0 0 [] wr (by omega) HP1.out.1 ⟨rfl, .inl rfl⟩ (fun _ => rfl) (by omega)).mono ?_
        rintro e w9 ⟨a9, n9, c9, rfl, hn9, hN9⟩
        have hn9' : n9 ≤ n + 4 := by rw [hn9, sAttr_length]; simp
        have HN9 := uhid (NewB.trans HN.out.1 hN9)
        rw [HX.out] at HN9
        have HL9 : Hid (n9 = (B1 ++ sNums (m.unk.take (k + 1))).length) := uhid (by rw [← HX.out, List.length_append, ← HL.out, hn9])
        clear HN HL hN9 hn9 HX HP1
        go_wp2_with fail
        exact ⟨⟨k + 1, n9, a9, c9, by omega, by go_num, rfl, by omega, HL9, HN9⟩, by simp [intOf]; omega⟩
      · have i1 : ¬ (k : Int) < (m.unk.length : Int) := by omega
        have ek : m.unk.take k = m.unk := List.take_of_length_le (by omega)
        rw [ek] at HL HN
        have q15 := (HM0.out.later HN.out.1 hlt0 (Nat.le_refl _)).soft
        clear ek
        by_cases hs : m.soft = []
        · have h5 : (S m.soft).toList.isEmpty = true := by rw [HSN.out, hs]; rfl
          have hfin : BD = (B1 ++ sNums m.unk) := by rw [HF.out, softB, if_neg (by simpa using hs)]; simp [sBody]
          have HFin : Hid (n = BD.length ∧ NewB w wr (.slice a n c) BD) := uhid ⟨by rw [hfin]; exact HL.out, by rw [hfin]; exact NewB.trans HB0.out HN.out⟩
          clear HN HL HF hs hfin
          go_wp2_with fail
          go_ret
          exact ⟨a, n, c, rfl, HFin.out.1, HFin.out.2⟩
        · have h5 : (S m.soft).toList.isEmpty = false := by rw [HSN.out]; exact decide_eq_false hs
          have hcv := str_conv wr m.soft
          rw [HSS.out] at hcv
          obtain ⟨gc, hgc⟩ : ∃ gc, grownCap wr m.soft.length 0 5 = gc := ⟨_, rfl⟩
          rw [hgc] at hcv
          have HP1 := uhid (HN.out.at_ HL.out.symm)
          have hfin : BD = (B1 ++ sNums m.unk) ++ sAttr (32802, m.soft) := by rw [HF.out, softB, if_pos hs]; simp [sBody]
          have HFin := uhid hfin
          clear HF hs hfin hgc
          go_wp2_with fail
          refine (sattr_new a n c _ 32802 (by decide) _ m.soft.length gc m.soft _ (by omega) (HP1.out.1.later (str_below wr _ _)) (str_byt wr _ m.soft) (fun e => by cases e) (by omega)).mono ?_
          rintro e w9 ⟨a9, n9, c9, rfl, hn9, hN9⟩
          have HEnd : Hid (n9 = BD.length ∧ NewB w w9 (.slice a9 n9 c9) BD) := uhid ⟨by rw [HFin.out, List.length_append, hn9, HL.out], by rw [HFin.out]; exact NewB.trans HB0.out (NewB.trans (HN.out.1) (NewB.trans (str_below wr _ _) hN9))⟩
          clear HN HL hN9 hn9 HFin hcv HP1
          go_wp2_with fail
          go_ret
          exact ⟨a9, n9, c9, rfl, HEnd.out.1, HEnd.out.2⟩
  · obtain ⟨B1, hB1⟩ : ∃ B1, [] ++ sAttr (9, [0, 0, UInt8.ofNat (m.code.toNat / 100), UInt8.ofNat (m.code.toNat % 100)] ++ m.reason) = B1 := ⟨_, rfl⟩
    have HB1 := uhid hB1
    have hc3 := HR.out.code c0
    rw [c0] at a0
    have a18 : arr[18]? = some (.slice ua m.unk.length uc) := by rw [← HA.out]; rfl
    clear hB1
    go_enter Try.func40, Try.ntmps40
    go_wp2_with (refine wpList_load_row rfl 29 _ rfl w.heap.size rfl 29 _ (0, 0) _ HBLK.out Try.underlying29 rfl HI.out ?_)
    obtain ⟨W, hW⟩ : ∃ W, w.alloc (.cells arr 29) = W := ⟨_, rfl⟩
    rw [hW] at HB0 HM0
    rw [hW]
    have hlt0 : w.heap.size < W.heap.size := HM0.out.lt
    clear hW HAD HBLK
    rw [← HA.out]
    refine (scode_new m ua uc hc3.1 hc3.2 hr100 W).mono ?_
    rintro e w2 ⟨ac, cc, rfl, hN2⟩
    have HN2p := uhid (hN2.at_ (show ([0, 0, UInt8.ofNat (m.code.toNat / 100), UInt8.ofNat (m.code.toNat % 100)] ++ m.reason).length = 4 + m.reason.length by simp; omega))
    have HBW2 := uhid hN2.1
    clear hN2
    go_wp2_with fail
    refine (sattr_new none 0 0 [] 9 (by decide) _ (4 + m.reason.length) cc _ w2 (by omega) ⟨rfl, .inl rfl⟩ HN2p.out.1 HN2p.out.2.2.2 (by omega)).mono ?_
    rintro e w3 ⟨a3, n3, c3, rfl, hn3, hN3⟩
    rw [HB1.out] at hN3
    have hB1l : n3 = B1.length := by rw [hn3, ← HB1.out, List.length_append]; rfl
    have hn12 : n3 ≤ 120 := by rw [hn3, sAttr_length]; simp; omega
    have HN3 := uhid (NewB.trans HBW2.out hN3)
    have HL3 := uhid hB1l
    have hM3 := HM0.out.later HN3.out.1 hlt0 (Nat.le_refl _)
    have q0 := hM3.cls
    have q18 := hM3.unk
    rw [c0] at q0
    have HM3 := uhid hM3
    clear hN3 hn3 hB1l HN2p HBW2 hM3
    by_cases hu : m.unk = []
    · have hF : BD = B1 ++ softB m := by rw [← HBD.out, attrs_fail0 m c0 hu, HB1.out]
      have HF := uhid hF
      have u0 : m.unk.length = 0 := by rw [hu]; rfl
      rw [u0] at q18
      have q15 := HM3.out.soft
      clear HB1 hF hu
      have HL := HL3
      have HN := HN3
      clear HL3 HN3
      by_cases hs : m.soft = []
      · have h5 : (S m.soft).toList.isEmpty = true := by rw [HSN.out, hs]; rfl
        have hfin : BD = B1 := by rw [HF.out, softB, if_neg (by simpa using hs)]; simp [sBody]
        have HFin : Hid (n3 = BD.length ∧ NewB w w3 (.slice a3 n3 c3) BD) := uhid ⟨by rw [hfin]; exact HL.out, by rw [hfin]; exact NewB.trans HB0.out HN.out⟩
        clear HN HL HF hs hfin
        go_wp2_with fail
        go_ret
        exact ⟨a3, n3, c3, rfl, HFin.out.1, HFin.out.2⟩
      · have h5 : (S m.soft).toList.isEmpty = false := by rw [HSN.out]; exact decide_eq_false hs
        have hcv := str_conv w3 m.soft
        rw [HSS.out] at hcv
        obtain ⟨gc, hgc⟩ : ∃ gc, grownCap w3 m.soft.length 0 5 = gc := ⟨_, rfl⟩
        rw [hgc] at hcv
        have HP1 := uhid (HN.out.at_ HL.out.symm)
        have hfin : BD = B1 ++ sAttr (32802, m.soft) := by rw [HF.out, softB, if_pos hs]; simp [sBody]
        have HFin := uhid hfin
        clear HF hs hfin hgc
        go_wp2_with fail
        refine (sattr_new a3 n3 c3 _ 32802 (by decide) _ m.soft.length gc m.soft _ (by omega) (HP1.out.1.later (str_below w3 _ _)) (str_byt w3 _ m.soft) (fun e => by cases e) (by omega)).mono ?_
        rintro e w9 ⟨a9, n9, c9, rfl, hn9, hN9⟩
        have HEnd : Hid (n9 = BD.length ∧ NewB w w9 (.slice a9 n9 c9) BD) := uhid ⟨by rw [HFin.out, List.length_append, hn9, HL.out], by rw [HFin.out]; exact NewB.trans HB0.out (NewB.trans (HN.out.1) (NewB.trans (str_below w3 _ _) hN9))⟩
        clear HN HL hN9 hn9 HFin hcv HP1
        go_wp2_with fail
        go_ret
        exact ⟨a9, n9, c9, rfl, HEnd.out.1, HEnd.out.2⟩
    · have hu1 : 0 < m.unk.length := List.length_pos_iff.2 hu
      have hF : BD = B1 ++ sAttr (10, sUnk m.unk) ++ softB m := by rw [← HBD.out, attrs_fail m c0 hu, HB1.out]
      have HF := uhid hF
      have u0 : ¬ (m.unk.length : Int) = 0 := by omega
      have u1 : (0 : Int) < (m.unk.length : Int) := by omega
      clear HB1 hF hu
      go_wp2_with fail
      refine (snums_new m.unk ua uc w3 (HU.out.later (HB0.out.trans (HN3.out.1.mono HB0.out.size))) hu20 (fun x hx => ⟨(HR.out.nums x hx).1, (HR.out.nums x hx).2.1⟩)).mono ?_
      rintro e w4 ⟨a4, n4, c4, rfl, hn4, hN4⟩
      have HN4p := uhid (hN4.at_ hn4.symm)
      have hn40 : n4 ≤ 40 := by rw [hn4, sUnk_length]; omega
      have HN3b := uhid ((HN3.out.at_ HL3.out.symm).1.later hN4.1)
      have HBW4 := uhid hN4.1
      have HN4l := uhid hn4
      have hb1 : n3 ≤ 5000 := by omega
      have hb2 : n4 ≤ 5000 := by omega
      clear hN4 q0 q18 hn4 u0 u1
      go_wp2_with fail
      refine (sattr_new a3 n3 c3 B1 10 (by decide) a4 n4 c4 (sUnk m.unk) w4 hb1 HN3b.out HN4p.out.1 HN4p.out.2.2.2 hb2).mono ?_
      rintro e w5 ⟨a, n, c, rfl, hn5, hN5⟩
      have HN := uhid (NewB.trans HN3.out.1 (NewB.trans HBW4.out hN5))
      have HL : Hid (n = (B1 ++ sAttr (10, sUnk m.unk)).length) := uhid (by rw [List.length_append, ← HL3.out, hn5])
      have hn50 : n ≤ 170 := by rw [hn5, sAttr_length]; simp only; rw [← HN4l.out]; omega
      have hM5 := HM0.out.later HN.out.1 hlt0 (Nat.le_refl _)
      have q0 := hM5.cls
      rw [c0] at q0
      have q15 := hM5.soft
      clear hN5 hn5 HN3b HBW4 HN4p HN3 HL3 HM3 hM5 hb1 hb2
      by_cases hs : m.soft = []
      · have h5 : (S m.soft).toList.isEmpty = true := by rw [HSN.out, hs]; rfl
        have hfin : BD = (B1 ++ sAttr (10, sUnk m.unk)) := by rw [HF.out, softB, if_neg (by simpa using hs)]; simp [sBody]
        have HFin : Hid (n = BD.length ∧ NewB w w5 (.slice a n c) BD) := uhid ⟨by rw [hfin]; exact HL.out, by rw [hfin]; exact NewB.trans HB0.out HN.out⟩
        clear HN HL HF hs hfin
        go_wp2_with fail
        go_ret
        exact ⟨a, n, c, rfl, HFin.out.1, HFin.out.2⟩
      · have h5 : (S m.soft).toList.isEmpty = false := by rw [HSN.out]; exact decide_eq_false hs
        have hcv := str_conv w5 m.soft
        rw [HSS.out] at hcv
        obtain ⟨gc, hgc⟩ : ∃ gc, grownCap w5 m.soft.length 0 5 = gc := ⟨_, rfl⟩
        rw [hgc] at hcv
        have HP1 := uhid (HN.out.at_ HL.out.symm)
        have hfin : BD = (B1 ++ sAttr (10, sUnk m.unk)) ++ sAttr (32802, m.soft) := by rw [HF.out, softB, if_pos hs]; simp [sBody]
        have HFin := uhid hfin
        clear HF hs hfin hgc
        go_wp2_with fail
        refine (sattr_new a n c _ 32802 (by decide) _ m.soft.length gc m.soft _ (by omega) (HP1.out.1.later (str_below w5 _ _)) (str_byt w5 _ m.soft) (fun e => by cases e) (by omega)).mono ?_
        rintro e w9 ⟨a9, n9, c9, rfl, hn9, hN9⟩
        have HEnd : Hid (n9 = BD.length ∧ NewB w w9 (.slice a9 n9 c9) BD) := uhid ⟨by rw [HFin.out, List.length_append, hn9, HL.out], by rw [HFin.out]; exact NewB.trans HB0.out (NewB.trans (HN.out.1) (NewB.trans (str_below w5 _ _) hN9))⟩
        clear HN HL hN9 hn9 HFin hcv HP1
        go_wp2_with fail
        go_ret
        exact ⟨a9, n9, c9, rfl, HEnd.out.1, HEnd.out.2⟩
end Go.Proofs.Ytejbhjcopldekaa
