/- The walk over the program's Open. -/
import Derived.Test.YtcnihgjibiidpaaAeadC
namespace Go.Proofs.Ytcnihgjibiidpaa
set_option linter.unusedVariables false
open Go.RowKit

theorem byt_rest {w : World} {bc oc p : Nat} {b : List UInt8} (h : Byt w (some ⟨bc, oc, none⟩) (p + 16) b) : Byt w (some ⟨bc, oc + p, none⟩) 16 (b.drop p) := by
  have hl := h.1
  have := h.sub (n := p) (q := p + 16) (by omega) (by omega)
  rw [List.take_of_length_le (by simp; omega), Nat.add_sub_cancel_left] at this
  exact this

set_option maxHeartbeats 1000000 in
set_option maxRecDepth 100000 in
theorem open_all (key nonce : List UInt8) (a : Option Addr) (la ca : Nat) (ad : List UInt8) (c : Option Addr) (lc cc : Nat) (b : List UInt8) (w : World) (hk : key.length = 32) (hn : nonce.length = 12)
    (hA : Byt w a la ad) (hAn : a = none → ca = 0) (hla : la ≤ 1000) (hca : la ≤ ca) (hcam : ca ≤ maxLen) (hC : Byt w c lc b) (hCn : c = none → cc = 0) (hlc : lc ≤ 1100) (hcc : lc ≤ cc) (hccm : cc ≤ maxLen) :
    Calls Try.prog 20 #[.agg (key.map bv).toArray, .agg (nonce.map bv).toArray, .slice a la ca, .slice c lc cc] w fun e w' => Below w.heap.size w w' ∧
      ((Sealed key nonce ad b ∧ ∃ a' cap', e = .returned (.tuple #[.slice a' (lc - 16) cap', .int .i64 0]) ∧ Byt w' a' (lc - 16) (openB key nonce b)) ∨ (¬ Sealed key nonce ad b ∧ e = .returned (.tuple #[.slice none 0 0, .int .i64 3]))) := by
  have hbl := hC.1
  have HA : Hid (Byt w a la ad) := hA
  have HC : Hid (Byt w c lc b) := hC
  obtain ⟨s, hs⟩ : ∃ s, IsSealer s key nonce := ⟨_, rfl, hk, hn⟩
  have IK : Hid ((Try.prog.info? 23).map (·.size) = some (key.map bv).toArray.size) := key_info key hk
  have IN : Hid ((Try.prog.info? 40).map (·.size) = some (nonce.map bv).toArray.size) := id_info nonce hn
  have hsl := hs.len
  have IS : Hid ((Try.prog.info? 64).map (·.size) = some (s.map bv).toArray.size) := sealer_info s hs.len
  obtain ⟨n1, n0⟩ := arr_new2 w 23 key nonce 40
  have HKey : Hid (Arr _ w.heap.size 23 key) := n0
  have HNon : Hid (Arr _ (w.heap.size + 1) 40 nonce) := n1
  have e44 : (Try.prog.info? 64).map (·.size) = some 44 := by kernel_rfl
  have hst := run_store_arr ((w.alloc (.cells (key.map bv).toArray 23)).alloc (.cells (nonce.map bv).toArray 40)) 64 s 44 hs.len e44
  rw [World.size_alloc, World.size_alloc] at hst
  have HS0 : Hid (SQ w s (((w.alloc (.cells (key.map bv).toArray 23)).alloc (.cells (nonce.map bv).toArray 40)).alloc (.cells (s.map bv).toArray 64))) := SQ.new w s _ _
  clear hA hC n1 n0 e44
  by_cases hlt : lc < 16
  · have HN : Hid (¬ Sealed key nonce ad b) := fun h => by have := h.1; omega
    have i1 : (lc : Int) - 16 < 0 := by omega
    go_enter Try.func20, Try.ntmps20
    go_wp2_with (first | refine wpList_load_row rfl 23 _ rfl w.heap.size rfl 23 _ (0, 0) _ HKey.out Try.underlying23 rfl IK.out ?_ | refine wpList_load_row rfl 40 _ rfl (w.heap.size + 1) rfl 40 _ (0, 0) _ HNon.out Try.underlying40 rfl IN.out ?_ | refine wpList_sealer key nonce s hs rfl (.tmp 13) (.tmp 14) rfl rfl rfl ?_)
    go_ret2
    exact ⟨HS0.out.bel, .inr ⟨HN.out, rfl⟩⟩
  · obtain ⟨p, rfl⟩ : ∃ p, lc = p + 16 := ⟨lc - 16, by omega⟩
    have i1 : ((p + 16 : Nat) : Int) - 16 = (p : Int) := by omega
    have i2 : ¬ (p : Int) < 0 := by omega
    obtain ⟨bc, oc, rfl⟩ : ∃ bc oc, c = some ⟨bc, oc, none⟩ := by
      obtain ⟨b', o', e, _⟩ := HC.out.at_ 0 (by omega)
      exact ⟨b', o', e⟩
    have hbc := HC.out.lt (by omega)
    go_enter Try.func20, Try.ntmps20
    go_wp2_with (first | refine wpList_load_row rfl 23 _ rfl w.heap.size rfl 23 _ (0, 0) _ HKey.out Try.underlying23 rfl IK.out ?_ | refine wpList_load_row rfl 40 _ rfl (w.heap.size + 1) rfl 40 _ (0, 0) _ HNon.out Try.underlying40 rfl IN.out ?_ | refine wpList_sealer key nonce s hs rfl (.tmp 13) (.tmp 14) rfl rfl rfl ?_)
    -- THE REGION
    clear hst HKey HNon
    refine from_world (P := Code.wp Try.prog _ _ _) (R := fun W => Hid (SQ w s W)) _ HS0 ?_
    intro W0 hS0
    clear HS0
    obtain ⟨T, hT⟩ : ∃ T, aeadTag key nonce ad (b.take p) = T := ⟨_, rfl⟩
    have hTl : T.length = 16 := by rw [← hT, aeadTag_length]
    have HTT : Hid (aeadTag key nonce ad (b.take p) = T) := hT
    have hpc : (p : Int) ≤ (cc : Int) := by omega
    have hcn : ¬ cc = p := by omega
    have hp16 : (p : Int) ≤ (p : Int) + 16 := by omega
    have hccm' : cc ≤ 9223372036854775807 := by unfold maxLen at hccm; exact hccm
    obtain ⟨W, hW⟩ : ∃ W, W0.drew = W := ⟨_, rfl⟩
    have hgr : Below W0.heap.size W0 W := by rw [← hW]; exact (Below.refl _ _).drew
    have HSW : Hid (SQ w s W) := hS0.out.later (hgr.mono hS0.out.size)
    have hWe : Hid (W0.drew = W) := hW
    clear hW hgr hS0 hT i1
    refine sched_begin (G := Grows) (by kernel_rfl) Grows.refl Grows.trans (by kernel_rfl) [(0, true), (1, true), (2, true), (3, true), (4, true)] 3 ((Array.replicate 8 false).mapIdx fun i _ => i < 5) rfl (by kernel_rfl) ?_
    intro KL hKL
    rw [hWe.out]
    refine sched_take rfl (by rfl) (v := .agg (s.map bv).toArray) (fun w' hw' => exec_load_row 64 _ rfl (w.heap.size + 1 + 1) rfl 64 _ (0, 0) _ (HSW.out.s.later hw') Try.underlying64 rfl IS.out) ?_
    go_simp
    iterate 4 (refine sched_take rfl (by rfl) (v := ?_) ?_ ?_; rotate_left; (intro w' hw'; clear hw'; go_simp; with_reducible rfl); go_simp)
    refine hKL.out _ _ ?_
    clear hKL
    refine sched_two (i := 5) (j := 6) (by kernel_rfl) rfl (by rfl) rfl (by rfl) ?_ ?_
    · refine oper_call (f := 35) (args := #[.agg (s.map bv).toArray, .slice a la ca, .slice (some ⟨bc, oc, none⟩) p cc]) (by go_simp) ?_
      refine (atag_any s key nonce hs a la ca ad (some ⟨bc, oc, none⟩) p cc (b.take p) W (HA.out.later HSW.out.bel) hAn ((HC.out.below hbc HSW.out.bel).cut (by omega)) (by intro e; cases e) (by omega) (by omega)).mono ?_
      rintro e w2 ⟨rfl, hb2⟩
      refine ⟨_, rfl, hb2, ?_⟩
      rw [HTT.out]
      have hst := run_store_arr w2 66 T 16 hTl (by kernel_rfl)
      obtain ⟨W4, hW4⟩ : ∃ W4, w2.alloc (.cells (T.map bv).toArray 66) = W4 := ⟨_, rfl⟩
      have hb4 : Below W.heap.size W W4 := by rw [← hW4]; exact hb2.alloc hb2.size _
      have HT4 : Hid (Byt W4 (some ⟨w2.heap.size, 0, none⟩) 16 T) := by rw [← hW4]; exact (Arr.new w2 66 T).byt 16 hTl
      have HS4 : Hid (SQ w s W4) := HSW.out.later (hb4.mono HSW.out.size)
      rw [hW4] at hst
      clear hb2 hb4 hW4 HSW
      refine sched_end Grows.refl Grows.trans (by kernel_rfl) [(6, false), (7, false)] rfl (by kernel_rfl) ?_
      intro KM hKM
      go_simp
      refine sched_val rfl (by rfl) (v := .pointer (some ⟨w2.heap.size, 0, none⟩)) (w' := w2.alloc (.cells ((List.replicate 16 (0 : UInt8)).map bv).toArray 66)) (by go_simp; rfl) ((Below.refl _ _).alloc (Nat.le_refl _) _) ?_
      go_simp
      have hst2 := hst ((List.replicate 16 (0 : UInt8)).map bv).toArray (by simp)
      refine sched_store rfl (by rfl) (w' := W4) (by go_simp) (by kernel_rfl) ?_
      clear hst hst2
      go_simp
      refine sched_done hKM ?_
      generalize w2.heap.size = g at HT4 ⊢
      go_wp2
      obtain ⟨W, hW⟩ : ∃ W, W4.drew = W := ⟨_, rfl⟩
      have hgr : Below W4.heap.size W4 W := by rw [← hW]; exact (Below.refl _ _).drew
      have HSW : Hid (SQ w s W) := HS4.out.later (hgr.mono HS4.out.size)
      have HTW : Hid (Byt W (some ⟨g, 0, none⟩) 16 T) := HT4.out.later hgr
      have HEW : Hid (Byt W (some ⟨bc, oc + p, none⟩) 16 (b.drop p)) := byt_rest (HC.out.below hbc HSW.out.bel)
      have hWe : Hid (W4.drew = W) := hW
      clear hW hgr HS4 HT4
      refine wp_region_sched' (G := Grows) (by kernel_rfl) Grows.refl Grows.trans (by kernel_rfl) [(0, true), (1, true), (2, true), (3, true), (4, false), (5, true)] rfl (by kernel_rfl) ?_
      intro KK hKK
      rw [hWe.out]
      iterate 4 (refine sched_take rfl (by rfl) (v := ?_) ?_ ?_; rotate_left; (intro w' hw'; clear hw'; go_simp; with_reducible rfl); go_simp)
      refine sched_call (f := 36) (args := #[.slice (some ⟨g, 0, none⟩) 16 16, .slice (some ⟨bc, oc + p, none⟩) 16 (cc - p)]) rfl (by rfl) (by go_simp) ?_
      refine (same_any _ _ 16 16 16 (cc - p) T (b.drop p) W HTW.out HEW.out).mono ?_
      rintro e w5 ⟨rfl, rfl⟩
      refine ⟨_, rfl, Grows.refl _, ?_⟩
      by_cases hT : T = b.drop p
      · have hTd : decide (T = b.drop p) = true := by rw [hT]; simp
        rw [hTd]
        clear hTd
        have HSe : Hid (Sealed key nonce ad b) := by
          refine ⟨by omega, ?_⟩
          rw [hbl, Nat.add_sub_cancel, HTT.out, hT]
        go_simp
        iterate 1 (refine sched_take rfl (by rfl) (v := ?_) ?_ ?_; rotate_left; (intro w' hw'; clear hw'; go_simp; with_reducible rfl); go_simp)
        refine sched_done hKK ?_
        clear hT HTW HEW
        obtain ⟨W6, hW6⟩ : ∃ W6, w5.drew = W6 := ⟨_, rfl⟩
        have hgr : Below w5.heap.size w5 W6 := by rw [← hW6]; exact (Below.refl _ _).drew
        have HS6 : Hid (SQ w s W6) := HSW.out.later (hgr.mono HSW.out.size)
        have HB6 : Hid (Byt W6 (some ⟨bc, oc, none⟩) p (b.take p)) := (HC.out.below hbc HS6.out.bel).cut (by omega)
        have hWe6 : Hid (w5.drew = W6) := hW6
        clear hW6 hgr HSW
        go_wp2
        refine wp_region_sched' (G := Grows) (by kernel_rfl) Grows.refl Grows.trans (by kernel_rfl) [(0, true), (1, true), (2, true), (3, true), (4, false), (5, true), (6, true)] rfl (by kernel_rfl) ?_
        intro KK2 hKK2
        rw [hWe6.out]
        refine sched_take rfl (by rfl) (v := .agg (s.map bv).toArray) (fun w' hw' => exec_load_row 64 _ rfl (w.heap.size + 1 + 1) rfl 64 _ (0, 0) _ (HS6.out.s.later hw') Try.underlying64 rfl IS.out) ?_
        go_simp
        iterate 3 (refine sched_take rfl (by rfl) (v := ?_) ?_ ?_; rotate_left; (intro w' hw'; clear hw'; go_simp; with_reducible rfl); go_simp)
        refine sched_call (f := 34) (args := #[.agg (s.map bv).toArray, .slice (some ⟨bc, oc, none⟩) p cc]) rfl (by rfl) (by go_simp) ?_
        refine (turn_own s key nonce hs (some ⟨bc, oc, none⟩) p cc (b.take p) W6 HB6.out (by omega) (by omega) hccm).mono ?_
        rintro e w7 ⟨v7, rfl, hb7, own7⟩
        refine ⟨_, rfl, hb7, ?_⟩
        obtain ⟨a7, c7, rfl, hB7, _, _, _⟩ := own_parts own7
        have HB7 : Hid (Byt w7 a7 p (openB key nonce b)) := by
          unfold openB
          rw [hbl, Nat.add_sub_cancel]
          exact hB7
        have HW7 : Hid (Below w.heap.size w w7) := HS6.out.bel.trans (hb7.mono HS6.out.bel.size)
        clear own7 hB7 hb7 HS6 HB6
        go_simp
        iterate 2 (refine sched_take rfl (by rfl) (v := ?_) ?_ ?_; rotate_left; (intro w' hw'; clear hw'; go_simp; with_reducible rfl); go_simp)
        refine sched_done hKK2 ?_
        go_wp2
        go_ret2
        exact ⟨HW7.out, .inl ⟨HSe.out, a7, c7, rfl, HB7.out⟩⟩
      · have hTd : decide (T = b.drop p) = false := by simp [hT]
        rw [hTd]
        clear hTd
        have HNo : Hid (¬ Sealed key nonce ad b) := by
          rintro ⟨_, h⟩
          rw [hbl, Nat.add_sub_cancel, HTT.out] at h
          exact hT h.symm
        go_simp
        iterate 1 (refine sched_take rfl (by rfl) (v := ?_) ?_ ?_; rotate_left; (intro w' hw'; clear hw'; go_simp; with_reducible rfl); go_simp)
        refine sched_done hKK ?_
        clear hT HTW HEW
        go_wp2
        go_ret2
        exact ⟨HSW.out.bel, .inr ⟨HNo.out, rfl⟩⟩
    · have hnew := Arr.new W 66 (List.replicate 16 (0 : UInt8))
      obtain ⟨W1, hW1⟩ : ∃ W1, W.alloc (.cells ((List.replicate 16 (0 : UInt8)).map bv).toArray 66) = W1 := ⟨_, rfl⟩
      rw [hW1] at hnew
      have hb1 : Below W.heap.size W W1 := by rw [← hW1]; exact (Below.refl _ _).alloc (Nat.le_refl _) _
      have HS1 : Hid (SQ w s W1) := HSW.out.later (hb1.mono HSW.out.size)
      have HZ1 : Hid (Arr W1 W.heap.size 66 (List.replicate 16 (0 : UInt8))) := hnew
      have hsz := HSW.out.size
      refine oper_val (v := .pointer (some ⟨W.heap.size, 0, none⟩)) (w' := W1) (by rw [← hW1]; go_simp; rfl) ⟨hb1, ?_⟩
      clear hW1 hb1 hnew HSW
      refine sched_end Grows.refl Grows.trans (by kernel_rfl) [(5, false), (7, false)] rfl (by kernel_rfl) ?_
      intro KM hKM
      go_simp
      refine sched_call (f := 35) (args := #[.agg (s.map bv).toArray, .slice a la ca, .slice (some ⟨bc, oc, none⟩) p cc]) rfl (by rfl) (by go_simp) ?_
      refine (atag_any s key nonce hs a la ca ad (some ⟨bc, oc, none⟩) p cc (b.take p) W1 (HA.out.later HS1.out.bel) hAn ((HC.out.below hbc HS1.out.bel).cut (by omega)) (by intro e; cases e) (by omega) (by omega)).mono ?_
      rintro e w2 ⟨rfl, hb2⟩
      refine ⟨_, rfl, hb2, ?_⟩
      rw [HTT.out]
      have hZ2 := HZ1.out.later hb2
      have hst := store_row w2 W.heap.size _ _ (T.map bv) hZ2 (by simp [hTl]) (bv_oneCell T)
      have hrow := hZ2.put T
      have hS2 := HS1.out.later (hb2.mono HS1.out.size)
      have hb4 : Below (w.heap.size + 1 + 1 + 1) w2 (w2.setRow W.heap.size (T.map bv).toArray) := below_setRow (Below.refl _ _) hsz _
      have HS4 : Hid (SQ w s (w2.setRow W.heap.size (T.map bv).toArray)) := hS2.later hb4
      obtain ⟨W4, hW4⟩ : ∃ W4, w2.setRow W.heap.size (T.map bv).toArray = W4 := ⟨_, rfl⟩
      rw [hW4] at hst hrow HS4
      have HT4 : Hid (Byt W4 (some ⟨W.heap.size, 0, none⟩) 16 T) := hrow.byt 16 hTl
      clear hb2 hb4 hW4 hZ2 hrow hS2 HS1 HZ1 hsz
      go_simp
      refine sched_store rfl (by rfl) (w' := W4) (by go_simp) (by kernel_rfl) ?_
      clear hst
      go_simp
      refine sched_done hKM ?_
      generalize W.heap.size = g at HT4 ⊢
      go_wp2
      obtain ⟨V, hV⟩ : ∃ V, W4.drew = V := ⟨_, rfl⟩
      have hgr : Below W4.heap.size W4 V := by rw [← hV]; exact (Below.refl _ _).drew
      have HSW : Hid (SQ w s V) := HS4.out.later (hgr.mono HS4.out.size)
      have HTW : Hid (Byt V (some ⟨g, 0, none⟩) 16 T) := HT4.out.later hgr
      have HEW : Hid (Byt V (some ⟨bc, oc + p, none⟩) 16 (b.drop p)) := byt_rest (HC.out.below hbc HSW.out.bel)
      have hWe : Hid (W4.drew = V) := hV
      clear hV hgr HS4 HT4
      refine wp_region_sched' (G := Grows) (by kernel_rfl) Grows.refl Grows.trans (by kernel_rfl) [(0, true), (1, true), (2, true), (3, true), (4, false), (5, true)] rfl (by kernel_rfl) ?_
      intro KK hKK
      rw [hWe.out]
      iterate 4 (refine sched_take rfl (by rfl) (v := ?_) ?_ ?_; rotate_left; (intro w' hw'; clear hw'; go_simp; with_reducible rfl); go_simp)
      refine sched_call (f := 36) (args := #[.slice (some ⟨g, 0, none⟩) 16 16, .slice (some ⟨bc, oc + p, none⟩) 16 (cc - p)]) rfl (by rfl) (by go_simp) ?_
      refine (same_any _ _ 16 16 16 (cc - p) T (b.drop p) V HTW.out HEW.out).mono ?_
      rintro e w5 ⟨rfl, rfl⟩
      refine ⟨_, rfl, Grows.refl _, ?_⟩
      by_cases hT : T = b.drop p
      · have hTd : decide (T = b.drop p) = true := by rw [hT]; simp
        rw [hTd]
        clear hTd
        have HSe : Hid (Sealed key nonce ad b) := by
          refine ⟨by omega, ?_⟩
          rw [hbl, Nat.add_sub_cancel, HTT.out, hT]
        go_simp
        iterate 1 (refine sched_take rfl (by rfl) (v := ?_) ?_ ?_; rotate_left; (intro w' hw'; clear hw'; go_simp; with_reducible rfl); go_simp)
        refine sched_done hKK ?_
        clear hT HTW HEW
        obtain ⟨W6, hW6⟩ : ∃ W6, w5.drew = W6 := ⟨_, rfl⟩
        have hgr : Below w5.heap.size w5 W6 := by rw [← hW6]; exact (Below.refl _ _).drew
        have HS6 : Hid (SQ w s W6) := HSW.out.later (hgr.mono HSW.out.size)
        have HB6 : Hid (Byt W6 (some ⟨bc, oc, none⟩) p (b.take p)) := (HC.out.below hbc HS6.out.bel).cut (by omega)
        have hWe6 : Hid (w5.drew = W6) := hW6
        clear hW6 hgr HSW
        go_wp2
        refine wp_region_sched' (G := Grows) (by kernel_rfl) Grows.refl Grows.trans (by kernel_rfl) [(0, true), (1, true), (2, true), (3, true), (4, false), (5, true), (6, true)] rfl (by kernel_rfl) ?_
        intro KK2 hKK2
        rw [hWe6.out]
        refine sched_take rfl (by rfl) (v := .agg (s.map bv).toArray) (fun w' hw' => exec_load_row 64 _ rfl (w.heap.size + 1 + 1) rfl 64 _ (0, 0) _ (HS6.out.s.later hw') Try.underlying64 rfl IS.out) ?_
        go_simp
        iterate 3 (refine sched_take rfl (by rfl) (v := ?_) ?_ ?_; rotate_left; (intro w' hw'; clear hw'; go_simp; with_reducible rfl); go_simp)
        refine sched_call (f := 34) (args := #[.agg (s.map bv).toArray, .slice (some ⟨bc, oc, none⟩) p cc]) rfl (by rfl) (by go_simp) ?_
        refine (turn_own s key nonce hs (some ⟨bc, oc, none⟩) p cc (b.take p) W6 HB6.out (by omega) (by omega) hccm).mono ?_
        rintro e w7 ⟨v7, rfl, hb7, own7⟩
        refine ⟨_, rfl, hb7, ?_⟩
        obtain ⟨a7, c7, rfl, hB7, _, _, _⟩ := own_parts own7
        have HB7 : Hid (Byt w7 a7 p (openB key nonce b)) := by
          unfold openB
          rw [hbl, Nat.add_sub_cancel]
          exact hB7
        have HW7 : Hid (Below w.heap.size w w7) := HS6.out.bel.trans (hb7.mono HS6.out.bel.size)
        clear own7 hB7 hb7 HS6 HB6
        go_simp
        iterate 2 (refine sched_take rfl (by rfl) (v := ?_) ?_ ?_; rotate_left; (intro w' hw'; clear hw'; go_simp; with_reducible rfl); go_simp)
        refine sched_done hKK2 ?_
        go_wp2
        go_ret2
        exact ⟨HW7.out, .inl ⟨HSe.out, a7, c7, rfl, HB7.out⟩⟩
      · have hTd : decide (T = b.drop p) = false := by simp [hT]
        rw [hTd]
        clear hTd
        have HNo : Hid (¬ Sealed key nonce ad b) := by
          rintro ⟨_, h⟩
          rw [hbl, Nat.add_sub_cancel, HTT.out] at h
          exact hT h.symm
        go_simp
        iterate 1 (refine sched_take rfl (by rfl) (v := ?_) ?_ ?_; rotate_left; (intro w' hw'; clear hw'; go_simp; with_reducible rfl); go_simp)
        refine sched_done hKK ?_
        clear hT HTW HEW
        go_wp2
        go_ret2
        exact ⟨HSW.out.bel, .inr ⟨HNo.out, rfl⟩⟩
theorem open_yes (key nonce : List UInt8) (a : Option Addr) (la ca : Nat) (ad : List UInt8) (c : Option Addr) (lc cc : Nat) (b : List UInt8) (w : World) (hk : key.length = 32) (hn : nonce.length = 12)
    (hA : Byt w a la ad) (hAn : a = none → ca = 0) (hla : la ≤ 1000) (hca : la ≤ ca) (hcam : ca ≤ maxLen) (hC : Byt w c lc b) (hCn : c = none → cc = 0) (hlc : lc ≤ 1100) (hcc : lc ≤ cc) (hccm : cc ≤ maxLen) (hS : Sealed key nonce ad b) :
    Calls Try.prog 20 #[.agg (key.map bv).toArray, .agg (nonce.map bv).toArray, .slice a la ca, .slice c lc cc] w fun e w' => ∃ a' cap', e = .returned (.tuple #[.slice a' (lc - 16) cap', .int .i64 0]) ∧ Below w.heap.size w w' ∧ Byt w' a' (lc - 16) (openB key nonce b) :=
  (open_all key nonce a la ca ad c lc cc b w hk hn hA hAn hla hca hcam hC hCn hlc hcc hccm).mono fun e w' h => by
    obtain ⟨hb, ⟨_, a', c', h1, h2⟩ | ⟨h1, _⟩⟩ := h
    · exact ⟨a', c', h1, hb, h2⟩
    · exact absurd hS h1
theorem open_no (key nonce : List UInt8) (a : Option Addr) (la ca : Nat) (ad : List UInt8) (c : Option Addr) (lc cc : Nat) (b : List UInt8) (w : World) (hk : key.length = 32) (hn : nonce.length = 12)
    (hA : Byt w a la ad) (hAn : a = none → ca = 0) (hla : la ≤ 1000) (hca : la ≤ ca) (hcam : ca ≤ maxLen) (hC : Byt w c lc b) (hCn : c = none → cc = 0) (hlc : lc ≤ 1100) (hcc : lc ≤ cc) (hccm : cc ≤ maxLen) (hS : ¬ Sealed key nonce ad b) :
    Calls Try.prog 20 #[.agg (key.map bv).toArray, .agg (nonce.map bv).toArray, .slice a la ca, .slice c lc cc] w fun e w' => ∃ a' cap', e = .returned (.tuple #[.slice a' 0 cap', .int .i64 3]) ∧ Below w.heap.size w w' :=
  (open_all key nonce a la ca ad c lc cc b w hk hn hA hAn hla hca hcam hC hCn hlc hcc hccm).mono fun e w' h => by
    obtain ⟨hb, ⟨h1, _⟩ | ⟨_, h1⟩⟩ := h
    · exact absurd h1 hS
    · exact ⟨none, 0, h1, hb⟩
end Go.Proofs.Ytcnihgjibiidpaa
