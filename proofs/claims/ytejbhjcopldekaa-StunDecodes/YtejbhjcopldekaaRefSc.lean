/- The document's Encode of a right message (stage 12). -/
import Derived.Test.YtejbhjcopldekaaRefSb
import Derived.Test.YtejbhjcopldekaaMathStuC
import Derived.Test.YtejbhjcopldekaaAppZ
namespace Go.Proofs.Ytejbhjcopldekaa
set_option linter.unusedVariables false
set_option maxRecDepth 100000
open Go.RowKit

/-- The document's message in its block. -/
structure DmIs (W : World) (g : Nat) (m : SM) (ia : Option Addr) (ic : Nat) (ua : Option Addr) (uc : Nat) : Prop where
  row : W.heap[g]? = some (.cells (dMsg m ia ic ua uc) 37 (0, 0))
section
variable {W W' : World} {g ic uc : Nat} {ia ua : Option Addr} {m : SM}
theorem DmIs.lt (h : DmIs W g m ia ic ua uc) : g < W.heap.size := (Array.getElem?_eq_some_iff.1 h.row).1
theorem DmIs.kept (h : DmIs W g m ia ic ua uc) (e : W'.heap[g]? = W.heap[g]?) : DmIs W' g m ia ic ua uc := ⟨by rw [e]; exact h.row⟩
theorem DmIs.c (h : DmIs W g m ia ic ua uc) (i : Nat) (v : Value) (e : (dMsg m ia ic ua uc)[i]? = some v) : W.cell? ⟨g, i, none⟩ = some v := by rw [cell_of_row W g i _ _ (0, 0) h.row]; exact e
end
theorem DmIs.all {W : World} {g ic uc : Nat} {ia ua : Option Addr} {cls : Int} {id : List UInt8} {host : Nat} {port : Int} {soft : List UInt8} {code : Int} {reason : List UInt8} {unk : List Int} (h : DmIs W g ⟨cls, id, host, port, soft, code, reason, unk⟩ ia ic ua uc) :
    W.cell? ⟨g, 0, none⟩ = some (.int .i64 cls) ∧ W.cell? ⟨g, 1, none⟩ = some (.slice ia id.length ic) ∧ W.cell? ⟨g, 2, none⟩ = some (.int .u32 (host : Int)) ∧ W.cell? ⟨g, 3, none⟩ = some (.int .i64 port) ∧ W.cell? ⟨g, 4, none⟩ = some (.string (S soft)) ∧ W.cell? ⟨g, 5, none⟩ = some (.int .i64 code) ∧ W.cell? ⟨g, 6, none⟩ = some (.string (S reason)) ∧ W.cell? ⟨g, 7, none⟩ = some (.slice ua unk.length uc) :=
  ⟨h.c 0 _ rfl, h.c 1 _ rfl, h.c 2 _ rfl, h.c 3 _ rfl, h.c 4 _ rfl, h.c 5 _ rfl, h.c 6 _ rfl, h.c 7 _ rfl⟩
theorem DmIs.newB {w1 W : World} {g ic uc : Nat} {ia ua : Option Addr} {m : SM} (h : DmIs w1 g m ia ic ua uc) {v : Value} {l : List UInt8} (hN : NewB w1 W v l) : DmIs W g m ia ic ua uc := h.kept (hN.1.block g h.lt)

set_option maxHeartbeats 1000000 in
theorem refEncode_any (m : SM) (ia : Option Addr) (ic : Nat) (ua : Option Addr) (uc : Nat) (w : World) (hm : m.Right) (hh : m.host < 4294967296) (hid : m.id.length = 12) (hI : Byt w ia 12 m.id) (hin : ia = none → ic = 0) (hU : IntsAt w ua m.unk.length m.unk) :
    Calls Try.prog 15 #[.agg (dMsg m ia ic ua uc)] w fun e w' => ∃ a n c, e = .returned (.slice a n c) ∧ n = (encS m).length ∧ NewB w w' (.slice a n c) (encS m) := by
  have HR := shid hm
  have hcls := hm.cls
  obtain ⟨cls, id, host, port, soft, code, reason, unk⟩ := m
  simp only [dMsg] at *
  have HU := shid hU
  have HI : Hid (Byt w ia id.length id) := shid (by rw [hid]; exact hI)
  have HID := shid hid
  clear hU hI hm hid
  rcases hcls with rfl | rfl | rfl
  · have HM : Hid (DmIs (w.alloc (.cells #[.int .i64 0, .slice ia id.length ic, .int .u32 (host : Int), .int .i64 port, .string (S soft), .int .i64 code, .string (S reason), .slice ua unk.length uc] 37)) w.heap.size ⟨0, id, host, port, soft, code, reason, unk⟩ ia ic ua uc) := shid ⟨heap_alloc_new w _⟩
    have HW1 : Hid (Below w.heap.size w (w.alloc (.cells #[.int .i64 0, .slice ia id.length ic, .int .u32 (host : Int), .int .i64 port, .string (S soft), .int .i64 code, .string (S reason), .slice ua unk.length uc] 37))) := shid ((Below.refl _ _).alloc (Nat.le_refl _) _)
    go_enter Try.func15, Try.ntmps15
    go_wp2_with fail
    have HN0 := shid (NewB.lit (Below.refl _ (w.alloc (.cells #[.int .i64 0, .slice ia id.length ic, .int .u32 (host : Int), .int .i64 port, .string (S soft), .int .i64 code, .string (S reason), .slice ua unk.length uc] 37))) [] #[] rfl (by simp))
    have hsz : (w.alloc (.cells #[.int .i64 0, .slice ia id.length ic, .int .u32 (host : Int), .int .i64 port, .string (S soft), .int .i64 code, .string (S reason), .slice ua unk.length uc] 37)).heap.size = w.heap.size + 1 := World.size_alloc _ _
    rw [hsz] at HN0
    clear hsz
    generalize World.alloc w _ = w1 at HM HW1 HN0 ⊢
    obtain ⟨A0, hA0⟩ : ∃ A0 : List (Nat × List UInt8), [] = A0 := ⟨_, rfl⟩
    have HL0 : Hid (0 = (sBody A0).length) := shid (by rw [← hA0]; rfl)
    have HN0 : Hid (NewB w1 (w1.alloc (.cells #[] 5)) (.slice (some ⟨w.heap.size + 1, 0, none⟩) 0 0) (sBody A0)) := shid (by rw [← hA0]; exact HN0.out)
    have hA0l : (sBody A0).length ≤ 100 := by rw [← hA0]; decide
    generalize World.alloc w1 _ = W0 at HN0 ⊢
    go_loopw [3, 8] (fun v i wr => ∃ (k n c : Nat) (a : Option Addr), k ≤ unk.length ∧ i = .int .i64 k ∧ v = .slice a n c ∧ Hid (n = (sBody (A0 ++ (unk.take k).map fun x => (x.toNat, []))).length) ∧ Hid (NewB w1 wr (.slice a n c) (sBody (A0 ++ (unk.take k).map fun x => (x.toNat, []))))) (fun _ i _ => unk.length - (intOf i).toNat)
    case atStart => exact ⟨0, _, _, _, Nat.zero_le _, rfl, rfl, shid (by simpa using HL0.out), shid (by simpa using HN0.out)⟩
    case round =>
      clear HN0 HL0
      obtain ⟨k, n, c, a, hk, rfl, rfl, HL, HN⟩ := hrel
      obtain ⟨x0, x1, x2, x3, x4, x5, x6, x7⟩ := DmIs.all (DmIs.newB HM.out HN.out)
      by_cases hlt : k < unk.length
      · have i1 : (k : Int) < (unk.length : Int) := by omega
        obtain ⟨b, off, rfl, hbw, hc0⟩ := HU.out.at_ k hlt
        have hc := hc0
        have hbl := HW1.out.trans (HN.out.1.mono HW1.out.size)
        rw [← hbl.cell (p := ⟨b, off + k, none⟩) hbw] at hc
        obtain ⟨q, hq⟩ : ∃ q : Nat, unk[k] = (q : Int) := ⟨unk[k].toNat, by have := (HR.out.nums unk[k] (List.getElem_mem hlt)).1; omega⟩
        have hqn := HR.out.nums unk[k] (List.getElem_mem hlt)
        have hsn : sBody (A0 ++ (unk.take (k + 1)).map fun x => (x.toNat, [])) = sBody (A0 ++ (unk.take k).map fun x => (x.toNat, [])) ++ sAttr (q, []) := by
          rw [List.take_succ_eq_append_getElem hlt, List.map_append, ← List.append_assoc, List.map_singleton, sBody_snoc, hq]
          rfl
        rw [hq] at hc hqn
        have hq1 := hqn.2.1
        have HS := shid hsn
        have hu20 := HR.out.unk
        simp only at hu20
        have hlen : n ≤ 2000 := by
          have h := HL.out
          rw [sBody_append, List.length_append, unk_length, List.length_take] at h
          omega
        have h4 : n % 4 = 0 := by rw [HL.out]; exact sBody_four _
        obtain ⟨hB, hnc, hcm, hnil⟩ := HN.out.at_ HL.out.symm
        clear hc0 hbl hq hqn hsn
        go_wp2_with fail
        refine (attr_new a n c _ q (by omega) none 0 0 [] wr (by omega) h4 hB hnil ⟨rfl, .inl rfl⟩ (fun _ => rfl) (by omega)).mono ?_
        rintro e w5 ⟨a5, n5, c5, rfl, hn5, hN5⟩
        have HN5 : Hid (NewB w1 w5 (.slice a5 n5 c5) (sBody (A0 ++ (unk.take (k + 1)).map fun x => (x.toNat, [])))) := shid (by rw [HS.out]; exact NewB.trans HN.out.1 hN5)
        have HL5 : Hid (n5 = (sBody (A0 ++ (unk.take (k + 1)).map fun x => (x.toNat, []))).length) := shid (by rw [HS.out, List.length_append, ← HL.out]; exact hn5)
        clear hB hN5 hn5 HN HL HS hlen x0 x1 x2 x3 x4 x5 x6 x7 hc hnil
        go_wp2_with fail
        exact ⟨⟨k + 1, n5, _, a5, by omega, by go_num, rfl, HL5, HN5⟩, by simp [intOf]; omega⟩
      · have i1 : ¬ (k : Int) < (unk.length : Int) := by omega
        rw [List.take_of_length_le (show unk.length ≤ k by omega)] at HL HN
        obtain ⟨A, hA⟩ : ∃ A, A0 ++ unk.map (fun x => (x.toNat, ([] : List UInt8))) = A := ⟨_, rfl⟩
        rw [hA] at HL HN
        have HA : Hid (SM.attrs ⟨0, id, host, port, soft, code, reason, unk⟩ = A ++ (if soft ≠ [] then [(32802, soft)] else []) ∧ (sBody A).length ≤ 400) := shid ⟨by
          rw [← hA, ← hA0]; simp [SM.attrs], by
          rw [← hA, sBody_append, List.length_append, unk_length]
          have := HR.out.unk
          simp only at this
          omega⟩
        clear hA
        have hsl : (S soft).toList = soft := ByteArray.toList_mk soft
        have hnb : n ≤ 400 := by have := HA.out.2; have := HL.out; omega
        obtain ⟨BD, hBD⟩ : ∃ BD, sBody (SM.attrs ⟨0, id, host, port, soft, code, reason, unk⟩) = BD := ⟨_, rfl⟩
        have HBD := shid hBD
        by_cases hs : soft = []
        · have HB : Hid (n = BD.length ∧ NewB w1 wr (.slice a n c) BD ∧ n ≤ 600) := shid (by
            rw [← hBD, HA.out.1, if_neg (by simpa using hs), List.append_nil]
            exact ⟨HL.out, HN.out, by omega⟩)
          have hsl2 : (S soft).toList = [] := by rw [hsl, hs]
          clear HL HN HA hsl hs hBD
          go_wp2_with fail
          have hnB := HB.out.2.2
          have h4B : n % 4 = 0 := by rw [HB.out.1, ← HBD.out]; exact sBody_four _
          refine (number_new (some ⟨wr.heap.size, 0, none⟩) 0 0 2 1 (by decide) (by decide) [] _ (by omega) ⟨rfl, .inl rfl⟩ (fun e => by cases e)).mono ?_
          rintro e w2 ⟨a2, c2, rfl, hN2⟩
          have hE : Below (wr.heap.size) wr (World.alloc wr (.cells #[] 5)) := (Below.refl _ _).alloc (Nat.le_refl _) _
          have HN2 : Hid (NewB wr w2 (.slice a2 2 c2) (putB 2 1 true)) := shid (NewB.trans hE (by simpa using hN2))
          clear hN2 hE
          obtain ⟨hB2, _, _, hn2⟩ := HN2.out.at_ (putB_length _ _ _)
          go_wp2_with fail
          rw [show (n : Int) + 8 = ((n + 8 : Nat) : Int) by omega]
          refine (number_new a2 2 c2 2 (n + 8) (by omega) (by decide) _ _ (by omega) hB2 hn2).mono ?_
          rintro e w3 ⟨a3, c3, rfl, hN3⟩
          have HN3 : Hid (NewB wr w3 (.slice a3 4 c3) (putB 2 1 true ++ putB 2 (n + 8) true)) := shid (NewB.trans HN2.out.1 hN3)
          have HNB : Hid (NewB w1 w3 (.slice a n c) BD) := shid (HB.out.2.1.later HN3.out.1)
          clear hN3 hB2 hn2 x0 x1 x2 x3 x4 x5 x6 x7
          have HWw : Hid (Below w.heap.size w w3) := shid (HW1.out.trans (HNB.out.1.mono HW1.out.size))
          go_wp2_with fail
          refine wp_region_sched' (G := Below w3.heap.size) (by kernel_rfl) (fun w => Below.refl _ w) (fun a b c h k => Below.trans h k) (by kernel_rfl) [(0, true), (2, true), (3, true), (5, true), (1, false), (4, false), (6, false), (7, true)] rfl (by kernel_rfl) ?_
          intro KK hKK
          have hX : ∀ w', Below w3.heap.size w3.drew w' → w'.cell? ⟨w.heap.size, 1, none⟩ = some (.slice ia id.length ic) := fun w' hw' => by
            have hd := DmIs.newB HM.out HNB.out
            rw [hw'.cell (p := ⟨w.heap.size, 1, none⟩) hd.lt]
            exact (DmIs.all hd).2.1
          iterate 4 (refine sched_take rfl (by rfl) (v := ?_) ?_ ?_; rotate_left; (intro w' hw'; have q1 := hX w' hw'; clear hw'; go_simp; with_reducible rfl); go_simp)
          clear hX
          obtain ⟨hB3, _, _, hn3⟩ := HN3.out.at_ (show (putB 2 1 true ++ putB 2 (n + 8) true).length = 4 by rw [List.length_append, putB_length, putB_length])
          have hdr : Below w3.heap.size w3 w3.drew := (Below.refl _ _).drew
          refine sched_call (f := 29) (args := #[.slice a3 4 c3, .int .i64 4, .int .u64 554869826]) rfl (by rfl) (by go_simp) ?_
          refine (number_new a3 4 c3 4 554869826 (by decide) (by decide) _ w3.drew (by omega) (hB3.later hdr) hn3).mono ?_
          rintro e w4 ⟨a4, c4, rfl, hN4⟩
          refine ⟨_, rfl, hN4.1, ?_⟩
          go_simp
          have hl4 : (putB 2 1 true ++ putB 2 (n + 8) true ++ putB 4 554869826 true).length = 8 := by rw [List.length_append, List.length_append, putB_length, putB_length, putB_length]
          have hb4 : Below w.heap.size w w4 := HWw.out.trans ((hdr.trans hN4.1).mono HWw.out.size)
          obtain ⟨a5, c5, w5, hap5, hN5, hb5⟩ := hN4.many2 ia id.length ic id (HI.out.later hb4) hin (by rw [hl4, HID.out]; omega)
          rw [hl4] at hap5 hN5
          have HAP5 := shid hap5
          refine sched_append rfl (by rfl) rfl (by rfl) (by rfl) HAP5.out hb5 ?_
          go_simp
          have hl5 : (putB 2 1 true ++ putB 2 (n + 8) true ++ putB 4 554869826 true ++ id).length = 8 + id.length := by rw [List.length_append, hl4]
          have hBD5 := (HNB.out.later (hdr.trans hN5.1)).at_ HB.out.1.symm
          obtain ⟨a6, c6, w6, hap6, hN6, hb6⟩ := hN5.many2 a n c BD hBD5.1 hBD5.2.2.2 (by rw [hl5, HID.out]; omega)
          rw [hl5] at hap6 hN6
          have HAP6 := shid hap6
          refine sched_append rfl (by rfl) rfl (by rfl) (by rfl) HAP6.out hb6 ?_
          obtain ⟨N, hN⟩ : ∃ N, 8 + id.length + n = N := ⟨_, rfl⟩
          obtain ⟨O, hO⟩ : ∃ O, putB 2 1 true ++ putB 2 (n + 8) true ++ putB 4 554869826 true ++ id ++ BD = O := ⟨_, rfl⟩
          rw [hN, hO] at hN6
          rw [hN]
          have HO : Hid (SM.out ⟨0, id, host, port, soft, code, reason, unk⟩ = O ∧ O.length = N ∧ N = 20 + n) := shid ⟨by rw [← hO, HB.out.1, ← HBD.out]; rfl, by rw [← hO, List.length_append, hl5, ← HB.out.1, hN], by have := HID.out; omega⟩
          have HN6 : Hid (NewB w w6 (.slice a6 N c6) O) := shid (NewB.trans (HWw.out.trans (hdr.mono HWw.out.size)) hN6)
          clear hap5 hap6 HAP5 HAP6 hN5 hN6 hb5 hb6 hBD5 hl4 hl5 hb4 hN4 hdr hB3 hn3 hN hO HN3 HN2 HNB HWw HB
          go_simp
          iterate 1 (refine sched_take rfl (by rfl) (v := ?_) ?_ ?_; rotate_left; (intro w' hw'; go_simp; with_reducible rfl); go_simp)
          refine sched_done hKK ?_
          clear hKK
          obtain ⟨hB6, hc6, hm6, hn6⟩ := HN6.out.at_ HO.out.2.1
          obtain ⟨X, hX⟩ : ∃ X, (crcOf O).toNat ^^^ 1398035790 = X := ⟨_, rfl⟩
          have hXb : X < 4294967296 := by rw [← hX]; exact xor_lt32 _ _ (crcOf O).isLt (by decide)
          have hxr : bits .xor .u32 ((crcOf O).toNat : Int) 1398035790 = (X : Int) := by rw [← hX]; exact xorU _ 1398035790 (crcOf O).isLt (by decide)
          have HXX := shid hX
          clear hX
          have hNs : N ≤ 700 := by have := HO.out.2.2; omega
          have hN4' : N % 4 = 0 := by have := HO.out.2.2; omega
          go_wp2_with fail
          refine (refCrc_any a6 N c6 O w6 hB6 (by unfold maxLen; omega)).mono ?_
          rintro e w7 ⟨rfl, rfl⟩
          go_wp2_with fail
          refine (number_new none 0 0 4 X (by omega) (by decide) [] _ (by omega) ⟨rfl, .inl rfl⟩ (fun _ => rfl)).mono ?_
          rintro e w8 ⟨a8, c8, rfl, hN8⟩
          have hN8' : NewB w7 w8 (.slice a8 4 c8) (putB 4 X true) := by simpa using hN8
          obtain ⟨hB8, _, _, hn8⟩ := hN8'.at_ (putB_length _ _ _)
          have hb8 := hN8'.1
          have hB68 := hB6.later hb8
          clear hN8 hN8' hB6
          go_wp2_with fail
          refine (attr_new a6 N c6 O 32808 (by decide) a8 4 c8 (putB 4 X true) w8 (by omega) hN4' hB68 hn6 hB8 hn8 (by omega)).mono ?_
          rintro e w9 ⟨a9, n9, c9, rfl, hn9, hN9⟩
          have hend : encS ⟨0, id, host, port, soft, code, reason, unk⟩ = O ++ sAttr (32808, putB 4 X true) := by unfold encS sFin; rw [HO.out.1, HXX.out]
          have HF : Hid (n9 = (encS ⟨0, id, host, port, soft, code, reason, unk⟩).length ∧ NewB w w9 (.slice a9 n9 c9) (encS ⟨0, id, host, port, soft, code, reason, unk⟩)) := shid ⟨by rw [hend, List.length_append, HO.out.2.1]; exact hn9, by rw [hend]; exact NewB.trans (HN6.out.1.trans (hb8.mono HN6.out.1.size)) hN9⟩
          clear hend hN9 hn9 hB68 hB8 hb8 hn8 HN6 HO HXX
          go_wp2_with fail
          go_ret
          exact ⟨a9, n9, _, rfl, HF.out.1, HF.out.2⟩
        · have hs4 : n % 4 = 0 := by rw [HL.out]; exact sBody_four _
          have hsm := HR.out.soft
          simp only at hsm
          obtain ⟨hB, hnc, hcm, hnil⟩ := HN.out.at_ HL.out.symm
          have hcv := str_conv wr soft
          have hsz2 : (S soft).size = soft.length := by unfold S; simp [ByteArray.size]
          rw [hsz2] at hcv
          have hne : (S soft).toList.isEmpty = false := by
            rw [hsl]
            cases soft with
            | nil => exact absurd rfl hs
            | cons _ _ => rfl
          clear hBD hsl
          go_wp2_with fail
          refine (attr_new a n c _ 32802 (by decide) _ soft.length _ soft _ (by omega) hs4 (hB.later (str_below _ _ _)) hnil (str_byt wr _ soft) (fun e => by cases e) (by omega)).mono ?_
          rintro e w10 ⟨a10, n10, c10, rfl, hn10, hN10⟩
          have hN10' := NewB.trans (str_below wr 5 (S soft)) hN10
          have HB : Hid (n10 = BD.length ∧ NewB w1 w10 (.slice a10 n10 c10) BD ∧ n10 ≤ 600) := shid (by
            rw [← HBD.out, HA.out.1, if_pos hs, sBody_snoc]
            refine ⟨by rw [List.length_append, ← HL.out]; exact hn10, NewB.trans HN.out.1 hN10', ?_⟩
            rw [hn10, sAttr_length]
            have e2 : ((32802, soft) : Nat × List UInt8).2.length = soft.length := rfl
            rw [e2]; omega)
          clear hN10 hN10' hn10 hB HL HN HA hcv hsz2 hnil x0 x1 x2 x3 x4 x5 x6 x7
          obtain ⟨x0, x1, x2, x3, x4, x5, x6, x7⟩ := DmIs.all (DmIs.newB HM.out HB.out.2.1)
          go_wp2_with fail
          have hnB := HB.out.2.2
          have h4B : n10 % 4 = 0 := by rw [HB.out.1, ← HBD.out]; exact sBody_four _
          refine (number_new (some ⟨w10.heap.size, 0, none⟩) 0 0 2 1 (by decide) (by decide) [] _ (by omega) ⟨rfl, .inl rfl⟩ (fun e => by cases e)).mono ?_
          rintro e w2 ⟨a2, c2, rfl, hN2⟩
          have hE : Below (w10.heap.size) w10 (World.alloc w10 (.cells #[] 5)) := (Below.refl _ _).alloc (Nat.le_refl _) _
          have HN2 : Hid (NewB w10 w2 (.slice a2 2 c2) (putB 2 1 true)) := shid (NewB.trans hE (by simpa using hN2))
          clear hN2 hE
          obtain ⟨hB2, _, _, hn2⟩ := HN2.out.at_ (putB_length _ _ _)
          go_wp2_with fail
          rw [show (n10 : Int) + 8 = ((n10 + 8 : Nat) : Int) by omega]
          refine (number_new a2 2 c2 2 (n10 + 8) (by omega) (by decide) _ _ (by omega) hB2 hn2).mono ?_
          rintro e w3 ⟨a3, c3, rfl, hN3⟩
          have HN3 : Hid (NewB w10 w3 (.slice a3 4 c3) (putB 2 1 true ++ putB 2 (n10 + 8) true)) := shid (NewB.trans HN2.out.1 hN3)
          have HNB : Hid (NewB w1 w3 (.slice a10 n10 c10) BD) := shid (HB.out.2.1.later HN3.out.1)
          clear hN3 hB2 hn2 x0 x1 x2 x3 x4 x5 x6 x7
          have HWw : Hid (Below w.heap.size w w3) := shid (HW1.out.trans (HNB.out.1.mono HW1.out.size))
          go_wp2_with fail
          refine wp_region_sched' (G := Below w3.heap.size) (by kernel_rfl) (fun w => Below.refl _ w) (fun a b c h k => Below.trans h k) (by kernel_rfl) [(0, true), (2, true), (3, true), (5, true), (1, false), (4, false), (6, false), (7, true)] rfl (by kernel_rfl) ?_
          intro KK hKK
          have hX : ∀ w', Below w3.heap.size w3.drew w' → w'.cell? ⟨w.heap.size, 1, none⟩ = some (.slice ia id.length ic) := fun w' hw' => by
            have hd := DmIs.newB HM.out HNB.out
            rw [hw'.cell (p := ⟨w.heap.size, 1, none⟩) hd.lt]
            exact (DmIs.all hd).2.1
          iterate 4 (refine sched_take rfl (by rfl) (v := ?_) ?_ ?_; rotate_left; (intro w' hw'; have q1 := hX w' hw'; clear hw'; go_simp; with_reducible rfl); go_simp)
          clear hX
          obtain ⟨hB3, _, _, hn3⟩ := HN3.out.at_ (show (putB 2 1 true ++ putB 2 (n10 + 8) true).length = 4 by rw [List.length_append, putB_length, putB_length])
          have hdr : Below w3.heap.size w3 w3.drew := (Below.refl _ _).drew
          refine sched_call (f := 29) (args := #[.slice a3 4 c3, .int .i64 4, .int .u64 554869826]) rfl (by rfl) (by go_simp) ?_
          refine (number_new a3 4 c3 4 554869826 (by decide) (by decide) _ w3.drew (by omega) (hB3.later hdr) hn3).mono ?_
          rintro e w4 ⟨a4, c4, rfl, hN4⟩
          refine ⟨_, rfl, hN4.1, ?_⟩
          go_simp
          have hl4 : (putB 2 1 true ++ putB 2 (n10 + 8) true ++ putB 4 554869826 true).length = 8 := by rw [List.length_append, List.length_append, putB_length, putB_length, putB_length]
          have hb4 : Below w.heap.size w w4 := HWw.out.trans ((hdr.trans hN4.1).mono HWw.out.size)
          obtain ⟨a5, c5, w5, hap5, hN5, hb5⟩ := hN4.many2 ia id.length ic id (HI.out.later hb4) hin (by rw [hl4, HID.out]; omega)
          rw [hl4] at hap5 hN5
          have HAP5 := shid hap5
          refine sched_append rfl (by rfl) rfl (by rfl) (by rfl) HAP5.out hb5 ?_
          go_simp
          have hl5 : (putB 2 1 true ++ putB 2 (n10 + 8) true ++ putB 4 554869826 true ++ id).length = 8 + id.length := by rw [List.length_append, hl4]
          have hBD5 := (HNB.out.later (hdr.trans hN5.1)).at_ HB.out.1.symm
          obtain ⟨a6, c6, w6, hap6, hN6, hb6⟩ := hN5.many2 a10 n10 c10 BD hBD5.1 hBD5.2.2.2 (by rw [hl5, HID.out]; omega)
          rw [hl5] at hap6 hN6
          have HAP6 := shid hap6
          refine sched_append rfl (by rfl) rfl (by rfl) (by rfl) HAP6.out hb6 ?_
          obtain ⟨N, hN⟩ : ∃ N, 8 + id.length + n10 = N := ⟨_, rfl⟩
          obtain ⟨O, hO⟩ : ∃ O, putB 2 1 true ++ putB 2 (n10 + 8) true ++ putB 4 554869826 true ++ id ++ BD = O := ⟨_, rfl⟩
          rw [hN, hO] at hN6
          rw [hN]
          have HO : Hid (SM.out ⟨0, id, host, port, soft, code, reason, unk⟩ = O ∧ O.length = N ∧ N = 20 + n10) := shid ⟨by rw [← hO, HB.out.1, ← HBD.out]; rfl, by rw [← hO, List.length_append, hl5, ← HB.out.1, hN], by have := HID.out; omega⟩
          have HN6 : Hid (NewB w w6 (.slice a6 N c6) O) := shid (NewB.trans (HWw.out.trans (hdr.mono HWw.out.size)) hN6)
          clear hap5 hap6 HAP5 HAP6 hN5 hN6 hb5 hb6 hBD5 hl4 hl5 hb4 hN4 hdr hB3 hn3 hN hO HN3 HN2 HNB HWw HB
          go_simp
          iterate 1 (refine sched_take rfl (by rfl) (v := ?_) ?_ ?_; rotate_left; (intro w' hw'; go_simp; with_reducible rfl); go_simp)
          refine sched_done hKK ?_
          clear hKK
          obtain ⟨hB6, hc6, hm6, hn6⟩ := HN6.out.at_ HO.out.2.1
          obtain ⟨X, hX⟩ : ∃ X, (crcOf O).toNat ^^^ 1398035790 = X := ⟨_, rfl⟩
          have hXb : X < 4294967296 := by rw [← hX]; exact xor_lt32 _ _ (crcOf O).isLt (by decide)
          have hxr : bits .xor .u32 ((crcOf O).toNat : Int) 1398035790 = (X : Int) := by rw [← hX]; exact xorU _ 1398035790 (crcOf O).isLt (by decide)
          have HXX := shid hX
          clear hX
          have hNs : N ≤ 700 := by have := HO.out.2.2; omega
          have hN4' : N % 4 = 0 := by have := HO.out.2.2; omega
          go_wp2_with fail
          refine (refCrc_any a6 N c6 O w6 hB6 (by unfold maxLen; omega)).mono ?_
          rintro e w7 ⟨rfl, rfl⟩
          go_wp2_with fail
          refine (number_new none 0 0 4 X (by omega) (by decide) [] _ (by omega) ⟨rfl, .inl rfl⟩ (fun _ => rfl)).mono ?_
          rintro e w8 ⟨a8, c8, rfl, hN8⟩
          have hN8' : NewB w7 w8 (.slice a8 4 c8) (putB 4 X true) := by simpa using hN8
          obtain ⟨hB8, _, _, hn8⟩ := hN8'.at_ (putB_length _ _ _)
          have hb8 := hN8'.1
          have hB68 := hB6.later hb8
          clear hN8 hN8' hB6
          go_wp2_with fail
          refine (attr_new a6 N c6 O 32808 (by decide) a8 4 c8 (putB 4 X true) w8 (by omega) hN4' hB68 hn6 hB8 hn8 (by omega)).mono ?_
          rintro e w9 ⟨a9, n9, c9, rfl, hn9, hN9⟩
          have hend : encS ⟨0, id, host, port, soft, code, reason, unk⟩ = O ++ sAttr (32808, putB 4 X true) := by unfold encS sFin; rw [HO.out.1, HXX.out]
          have HF : Hid (n9 = (encS ⟨0, id, host, port, soft, code, reason, unk⟩).length ∧ NewB w w9 (.slice a9 n9 c9) (encS ⟨0, id, host, port, soft, code, reason, unk⟩)) := shid ⟨by rw [hend, List.length_append, HO.out.2.1]; exact hn9, by rw [hend]; exact NewB.trans (HN6.out.1.trans (hb8.mono HN6.out.1.size)) hN9⟩
          clear hend hN9 hn9 hB68 hB8 hb8 hn8 HN6 HO HXX
          go_wp2_with fail
          go_ret
          exact ⟨a9, n9, _, rfl, HF.out.1, HF.out.2⟩
  · obtain ⟨p, hp⟩ : ∃ p : Nat, port = (p : Int) := ⟨port.toNat, by have := HR.out.p0; simp only at this; omega⟩
    subst hp
    have hp16 : p < 65536 := by have := HR.out.p1; simp only at this; omega
    have hxp : bits .xor .i64 (p : Int) 8466 = ((p ^^^ 8466 : Nat) : Int) := xorI p 8466 (by omega) (by decide)
    have hxh : bits .xor .u32 (host : Int) 554869826 = ((host ^^^ 554869826 : Nat) : Int) := xorU host 554869826 hh (by decide)
    obtain ⟨P, hP⟩ : ∃ P, p ^^^ 8466 = P := ⟨_, rfl⟩
    obtain ⟨H, hH⟩ : ∃ H, host ^^^ 554869826 = H := ⟨_, rfl⟩
    have hPs : P < 65536 := by rw [← hP]; exact xor16 p hp16
    have hHs : H < 4294967296 := by rw [← hH]; exact xor32 host hh
    rw [hP] at hxp
    rw [hH] at hxh
    have HPH := shid (And.intro hP hH)
    clear hP hH
    have HM : Hid (DmIs (w.alloc (.cells #[.int .i64 2, .slice ia id.length ic, .int .u32 (host : Int), .int .i64 (p : Int), .string (S soft), .int .i64 code, .string (S reason), .slice ua unk.length uc] 37)) w.heap.size ⟨2, id, host, p, soft, code, reason, unk⟩ ia ic ua uc) := shid ⟨heap_alloc_new w _⟩
    have HW1 : Hid (Below w.heap.size w (w.alloc (.cells #[.int .i64 2, .slice ia id.length ic, .int .u32 (host : Int), .int .i64 (p : Int), .string (S soft), .int .i64 code, .string (S reason), .slice ua unk.length uc] 37))) := shid ((Below.refl _ _).alloc (Nat.le_refl _) _)
    have HN0 := shid (NewB.lit (Below.refl _ (w.alloc (.cells #[.int .i64 2, .slice ia id.length ic, .int .u32 (host : Int), .int .i64 (p : Int), .string (S soft), .int .i64 code, .string (S reason), .slice ua unk.length uc] 37))) [] #[] rfl (by simp))
    have hsz : (w.alloc (.cells #[.int .i64 2, .slice ia id.length ic, .int .u32 (host : Int), .int .i64 (p : Int), .string (S soft), .int .i64 code, .string (S reason), .slice ua unk.length uc] 37)).heap.size = w.heap.size + 1 := World.size_alloc _ _
    have HD0 := shid (NewB.lit ((Below.refl _ (w.alloc (.cells #[.int .i64 2, .slice ia id.length ic, .int .u32 (host : Int), .int .i64 (p : Int), .string (S soft), .int .i64 code, .string (S reason), .slice ua unk.length uc] 37))).alloc (Nat.le_refl _) (.cells #[] 5)) [0, 1] #[.int .u8 0, .int .u8 1] rfl (by simp))
    rw [World.size_alloc] at HD0
    rw [hsz] at HN0 HD0
    clear hsz
    go_enter Try.func15, Try.ntmps15
    go_wp2_with fail
    generalize World.alloc w _ = w1 at HM HW1 HN0 HD0 ⊢
    refine (number_new (some ⟨w.heap.size + 1 + 1, 0, none⟩) 2 2 2 P (by omega) (by decide) [0, 1] _ (by omega) (HD0.out.at_ rfl).1 (fun e => by cases e)).mono ?_
    rintro e w5 ⟨a5, c5, rfl, hN5⟩
    have HN5 : Hid (NewB w1 w5 (.slice a5 4 c5) ([0, 1] ++ putB 2 P true)) := shid (NewB.trans HD0.out.1 hN5)
    have HB5 := shid (HN0.out.later (((Below.refl _ (w1.alloc (.cells #[] 5))).alloc (Nat.le_refl _) (.cells #[.int .u8 0, .int .u8 1] 5)).trans (hN5.1.mono (by simp))))
    obtain ⟨hB5, _, _, hn5⟩ := HN5.out.at_ (show ([0, 1] ++ putB 2 P true).length = 4 by simp [putB_length])
    obtain ⟨x0, x1, x2, x3, x4, x5, x6, x7⟩ := DmIs.all (DmIs.newB HM.out HN5.out)
    clear hN5
    go_wp2_with fail
    refine (number_new a5 4 c5 4 H (by omega) (by decide) _ _ (by omega) hB5 hn5).mono ?_
    rintro e w6 ⟨a6, c6, rfl, hN6⟩
    obtain ⟨D, hD⟩ : ∃ D, [0, 1] ++ putB 2 P true ++ putB 4 H true = D := ⟨_, rfl⟩
    have hDl : D.length = 8 := by rw [← hD]; simp [putB_length]
    rw [hD] at hN6
    have HD := shid hD
    have hb6 := hN6.1
    have HN6 : Hid (NewB w1 w6 (.slice a6 8 c6) D) := shid (NewB.trans HN5.out.1 hN6)
    obtain ⟨hB6, _, _, hn6⟩ := HN6.out.at_ hDl
    have hB0 := HB5.out.later hb6
    obtain ⟨hBe, _, _, hne0⟩ := hB0.at_ rfl
    clear hN6 hB5 hn5 hD x0 x1 x2 x3 x4 x5 x6 x7
    obtain ⟨x0, x1, x2, x3, x4, x5, x6, x7⟩ := DmIs.all (DmIs.newB HM.out HN6.out)
    go_wp2_with fail
    refine (attr_new (some ⟨w.heap.size + 1, 0, none⟩) 0 0 [] 32 (by decide) a6 8 c6 D w6 (by omega) rfl hBe hne0 hB6 hn6 (by omega)).mono ?_
    rintro e w7 ⟨a7, n7, c7, rfl, hn7, hN7⟩
    obtain ⟨A0, hA0⟩ : ∃ A0 : List (Nat × List UInt8), [(32, D)] = A0 := ⟨_, rfl⟩
    have hs0 : sBody A0 = sAttr (32, D) := by rw [← hA0]; simp [sBody]
    have HL0 : Hid (n7 = (sBody A0).length) := shid (by rw [hs0, hn7, Nat.zero_add])
    have HN0 : Hid (NewB w1 w7 (.slice a7 n7 c7) (sBody A0)) := shid (by rw [hs0]; exact NewB.trans HN6.out.1 hN7)
    have hA0l : (sBody A0).length ≤ 100 := by
      have e2 : ((32, D) : Nat × List UInt8).2.length = 8 := hDl
      rw [hs0, sAttr_length, e2]; decide
    clear hs0 hn7 hN7 hB0 hBe hne0 hB6 hn6 x0 x1 x2 x3 x4 x5 x6 x7 HB5 HN5 HD0 hb6
    obtain ⟨x0, x1, x2, x3, x4, x5, x6, x7⟩ := DmIs.all (DmIs.newB HM.out HN0.out)
    go_wp2_with fail
    clear x0 x1 x2 x3 x4 x5 x6 x7
    go_loopw [3, 8] (fun v i wr => ∃ (k n c : Nat) (a : Option Addr), k ≤ unk.length ∧ i = .int .i64 k ∧ v = .slice a n c ∧ Hid (n = (sBody (A0 ++ (unk.take k).map fun x => (x.toNat, []))).length) ∧ Hid (NewB w1 wr (.slice a n c) (sBody (A0 ++ (unk.take k).map fun x => (x.toNat, []))))) (fun _ i _ => unk.length - (intOf i).toNat)
    case atStart => exact ⟨0, _, _, _, Nat.zero_le _, rfl, rfl, shid (by simpa using HL0.out), shid (by simpa using HN0.out)⟩
    case round =>
      clear HN0 HL0
      obtain ⟨k, n, c, a, hk, rfl, rfl, HL, HN⟩ := hrel
      obtain ⟨x0, x1, x2, x3, x4, x5, x6, x7⟩ := DmIs.all (DmIs.newB HM.out HN.out)
      by_cases hlt : k < unk.length
      · have i1 : (k : Int) < (unk.length : Int) := by omega
        obtain ⟨b, off, rfl, hbw, hc0⟩ := HU.out.at_ k hlt
        have hc := hc0
        have hbl := HW1.out.trans (HN.out.1.mono HW1.out.size)
        rw [← hbl.cell (p := ⟨b, off + k, none⟩) hbw] at hc
        obtain ⟨q, hq⟩ : ∃ q : Nat, unk[k] = (q : Int) := ⟨unk[k].toNat, by have := (HR.out.nums unk[k] (List.getElem_mem hlt)).1; omega⟩
        have hqn := HR.out.nums unk[k] (List.getElem_mem hlt)
        have hsn : sBody (A0 ++ (unk.take (k + 1)).map fun x => (x.toNat, [])) = sBody (A0 ++ (unk.take k).map fun x => (x.toNat, [])) ++ sAttr (q, []) := by
          rw [List.take_succ_eq_append_getElem hlt, List.map_append, ← List.append_assoc, List.map_singleton, sBody_snoc, hq]
          rfl
        rw [hq] at hc hqn
        have hq1 := hqn.2.1
        have HS := shid hsn
        have hu20 := HR.out.unk
        simp only at hu20
        have hlen : n ≤ 2000 := by
          have h := HL.out
          rw [sBody_append, List.length_append, unk_length, List.length_take] at h
          omega
        have h4 : n % 4 = 0 := by rw [HL.out]; exact sBody_four _
        obtain ⟨hB, hnc, hcm, hnil⟩ := HN.out.at_ HL.out.symm
        clear hc0 hbl hq hqn hsn
        go_wp2_with fail
        refine (attr_new a n c _ q (by omega) none 0 0 [] wr (by omega) h4 hB hnil ⟨rfl, .inl rfl⟩ (fun _ => rfl) (by omega)).mono ?_
        rintro e w5 ⟨a5, n5, c5, rfl, hn5, hN5⟩
        have HN5 : Hid (NewB w1 w5 (.slice a5 n5 c5) (sBody (A0 ++ (unk.take (k + 1)).map fun x => (x.toNat, [])))) := shid (by rw [HS.out]; exact NewB.trans HN.out.1 hN5)
        have HL5 : Hid (n5 = (sBody (A0 ++ (unk.take (k + 1)).map fun x => (x.toNat, []))).length) := shid (by rw [HS.out, List.length_append, ← HL.out]; exact hn5)
        clear hB hN5 hn5 HN HL HS hlen x0 x1 x2 x3 x4 x5 x6 x7 hc hnil
        go_wp2_with fail
        exact ⟨⟨k + 1, n5, _, a5, by omega, by go_num, rfl, HL5, HN5⟩, by simp [intOf]; omega⟩
      · have i1 : ¬ (k : Int) < (unk.length : Int) := by omega
        rw [List.take_of_length_le (show unk.length ≤ k by omega)] at HL HN
        obtain ⟨A, hA⟩ : ∃ A, A0 ++ unk.map (fun x => (x.toNat, ([] : List UInt8))) = A := ⟨_, rfl⟩
        rw [hA] at HL HN
        have HA : Hid (SM.attrs ⟨2, id, host, p, soft, code, reason, unk⟩ = A ++ (if soft ≠ [] then [(32802, soft)] else []) ∧ (sBody A).length ≤ 400) := shid ⟨by
          rw [← hA, ← hA0]; simp [SM.attrs, HPH.out.1, HPH.out.2, ← HD.out], by
          rw [← hA, sBody_append, List.length_append, unk_length]
          have := HR.out.unk
          simp only at this
          omega⟩
        clear hA
        have hsl : (S soft).toList = soft := ByteArray.toList_mk soft
        have hnb : n ≤ 400 := by have := HA.out.2; have := HL.out; omega
        obtain ⟨BD, hBD⟩ : ∃ BD, sBody (SM.attrs ⟨2, id, host, p, soft, code, reason, unk⟩) = BD := ⟨_, rfl⟩
        have HBD := shid hBD
        by_cases hs : soft = []
        · have HB : Hid (n = BD.length ∧ NewB w1 wr (.slice a n c) BD ∧ n ≤ 600) := shid (by
            rw [← hBD, HA.out.1, if_neg (by simpa using hs), List.append_nil]
            exact ⟨HL.out, HN.out, by omega⟩)
          have hsl2 : (S soft).toList = [] := by rw [hsl, hs]
          clear HL HN HA hsl hs hBD
          go_wp2_with fail
          have hnB := HB.out.2.2
          have h4B : n % 4 = 0 := by rw [HB.out.1, ← HBD.out]; exact sBody_four _
          refine (number_new (some ⟨wr.heap.size, 0, none⟩) 0 0 2 257 (by decide) (by decide) [] _ (by omega) ⟨rfl, .inl rfl⟩ (fun e => by cases e)).mono ?_
          rintro e w2 ⟨a2, c2, rfl, hN2⟩
          have hE : Below (wr.heap.size) wr (World.alloc wr (.cells #[] 5)) := (Below.refl _ _).alloc (Nat.le_refl _) _
          have HN2 : Hid (NewB wr w2 (.slice a2 2 c2) (putB 2 257 true)) := shid (NewB.trans hE (by simpa using hN2))
          clear hN2 hE
          obtain ⟨hB2, _, _, hn2⟩ := HN2.out.at_ (putB_length _ _ _)
          go_wp2_with fail
          rw [show (n : Int) + 8 = ((n + 8 : Nat) : Int) by omega]
          refine (number_new a2 2 c2 2 (n + 8) (by omega) (by decide) _ _ (by omega) hB2 hn2).mono ?_
          rintro e w3 ⟨a3, c3, rfl, hN3⟩
          have HN3 : Hid (NewB wr w3 (.slice a3 4 c3) (putB 2 257 true ++ putB 2 (n + 8) true)) := shid (NewB.trans HN2.out.1 hN3)
          have HNB : Hid (NewB w1 w3 (.slice a n c) BD) := shid (HB.out.2.1.later HN3.out.1)
          clear hN3 hB2 hn2 x0 x1 x2 x3 x4 x5 x6 x7
          have HWw : Hid (Below w.heap.size w w3) := shid (HW1.out.trans (HNB.out.1.mono HW1.out.size))
          go_wp2_with fail
          refine wp_region_sched' (G := Below w3.heap.size) (by kernel_rfl) (fun w => Below.refl _ w) (fun a b c h k => Below.trans h k) (by kernel_rfl) [(0, true), (2, true), (3, true), (5, true), (1, false), (4, false), (6, false), (7, true)] rfl (by kernel_rfl) ?_
          intro KK hKK
          have hX : ∀ w', Below w3.heap.size w3.drew w' → w'.cell? ⟨w.heap.size, 1, none⟩ = some (.slice ia id.length ic) := fun w' hw' => by
            have hd := DmIs.newB HM.out HNB.out
            rw [hw'.cell (p := ⟨w.heap.size, 1, none⟩) hd.lt]
            exact (DmIs.all hd).2.1
          iterate 4 (refine sched_take rfl (by rfl) (v := ?_) ?_ ?_; rotate_left; (intro w' hw'; have q1 := hX w' hw'; clear hw'; go_simp; with_reducible rfl); go_simp)
          clear hX
          obtain ⟨hB3, _, _, hn3⟩ := HN3.out.at_ (show (putB 2 257 true ++ putB 2 (n + 8) true).length = 4 by rw [List.length_append, putB_length, putB_length])
          have hdr : Below w3.heap.size w3 w3.drew := (Below.refl _ _).drew
          refine sched_call (f := 29) (args := #[.slice a3 4 c3, .int .i64 4, .int .u64 554869826]) rfl (by rfl) (by go_simp) ?_
          refine (number_new a3 4 c3 4 554869826 (by decide) (by decide) _ w3.drew (by omega) (hB3.later hdr) hn3).mono ?_
          rintro e w4 ⟨a4, c4, rfl, hN4⟩
          refine ⟨_, rfl, hN4.1, ?_⟩
          go_simp
          have hl4 : (putB 2 257 true ++ putB 2 (n + 8) true ++ putB 4 554869826 true).length = 8 := by rw [List.length_append, List.length_append, putB_length, putB_length, putB_length]
          have hb4 : Below w.heap.size w w4 := HWw.out.trans ((hdr.trans hN4.1).mono HWw.out.size)
          obtain ⟨a5, c5, w5, hap5, hN5, hb5⟩ := hN4.many2 ia id.length ic id (HI.out.later hb4) hin (by rw [hl4, HID.out]; omega)
          rw [hl4] at hap5 hN5
          have HAP5 := shid hap5
          refine sched_append rfl (by rfl) rfl (by rfl) (by rfl) HAP5.out hb5 ?_
          go_simp
          have hl5 : (putB 2 257 true ++ putB 2 (n + 8) true ++ putB 4 554869826 true ++ id).length = 8 + id.length := by rw [List.length_append, hl4]
          have hBD5 := (HNB.out.later (hdr.trans hN5.1)).at_ HB.out.1.symm
          obtain ⟨a6, c6, w6, hap6, hN6, hb6⟩ := hN5.many2 a n c BD hBD5.1 hBD5.2.2.2 (by rw [hl5, HID.out]; omega)
          rw [hl5] at hap6 hN6
          have HAP6 := shid hap6
          refine sched_append rfl (by rfl) rfl (by rfl) (by rfl) HAP6.out hb6 ?_
          obtain ⟨N, hN⟩ : ∃ N, 8 + id.length + n = N := ⟨_, rfl⟩
          obtain ⟨O, hO⟩ : ∃ O, putB 2 257 true ++ putB 2 (n + 8) true ++ putB 4 554869826 true ++ id ++ BD = O := ⟨_, rfl⟩
          rw [hN, hO] at hN6
          rw [hN]
          have HO : Hid (SM.out ⟨2, id, host, p, soft, code, reason, unk⟩ = O ∧ O.length = N ∧ N = 20 + n) := shid ⟨by rw [← hO, HB.out.1, ← HBD.out]; rfl, by rw [← hO, List.length_append, hl5, ← HB.out.1, hN], by have := HID.out; omega⟩
          have HN6 : Hid (NewB w w6 (.slice a6 N c6) O) := shid (NewB.trans (HWw.out.trans (hdr.mono HWw.out.size)) hN6)
          clear hap5 hap6 HAP5 HAP6 hN5 hN6 hb5 hb6 hBD5 hl4 hl5 hb4 hN4 hdr hB3 hn3 hN hO HN3 HN2 HNB HWw HB
          go_simp
          iterate 1 (refine sched_take rfl (by rfl) (v := ?_) ?_ ?_; rotate_left; (intro w' hw'; go_simp; with_reducible rfl); go_simp)
          refine sched_done hKK ?_
          clear hKK
          obtain ⟨hB6, hc6, hm6, hn6⟩ := HN6.out.at_ HO.out.2.1
          obtain ⟨X, hX⟩ : ∃ X, (crcOf O).toNat ^^^ 1398035790 = X := ⟨_, rfl⟩
          have hXb : X < 4294967296 := by rw [← hX]; exact xor_lt32 _ _ (crcOf O).isLt (by decide)
          have hxr : bits .xor .u32 ((crcOf O).toNat : Int) 1398035790 = (X : Int) := by rw [← hX]; exact xorU _ 1398035790 (crcOf O).isLt (by decide)
          have HXX := shid hX
          clear hX
          have hNs : N ≤ 700 := by have := HO.out.2.2; omega
          have hN4' : N % 4 = 0 := by have := HO.out.2.2; omega
          go_wp2_with fail
          refine (refCrc_any a6 N c6 O w6 hB6 (by unfold maxLen; omega)).mono ?_
          rintro e w7 ⟨rfl, rfl⟩
          go_wp2_with fail
          refine (number_new none 0 0 4 X (by omega) (by decide) [] _ (by omega) ⟨rfl, .inl rfl⟩ (fun _ => rfl)).mono ?_
          rintro e w8 ⟨a8, c8, rfl, hN8⟩
          have hN8' : NewB w7 w8 (.slice a8 4 c8) (putB 4 X true) := by simpa using hN8
          obtain ⟨hB8, _, _, hn8⟩ := hN8'.at_ (putB_length _ _ _)
          have hb8 := hN8'.1
          have hB68 := hB6.later hb8
          clear hN8 hN8' hB6
          go_wp2_with fail
          refine (attr_new a6 N c6 O 32808 (by decide) a8 4 c8 (putB 4 X true) w8 (by omega) hN4' hB68 hn6 hB8 hn8 (by omega)).mono ?_
          rintro e w9 ⟨a9, n9, c9, rfl, hn9, hN9⟩
          have hend : encS ⟨2, id, host, p, soft, code, reason, unk⟩ = O ++ sAttr (32808, putB 4 X true) := by unfold encS sFin; rw [HO.out.1, HXX.out]
          have HF : Hid (n9 = (encS ⟨2, id, host, p, soft, code, reason, unk⟩).length ∧ NewB w w9 (.slice a9 n9 c9) (encS ⟨2, id, host, p, soft, code, reason, unk⟩)) := shid ⟨by rw [hend, List.length_append, HO.out.2.1]; exact hn9, by rw [hend]; exact NewB.trans (HN6.out.1.trans (hb8.mono HN6.out.1.size)) hN9⟩
          clear hend hN9 hn9 hB68 hB8 hb8 hn8 HN6 HO HXX
          go_wp2_with fail
          go_ret
          exact ⟨a9, n9, _, rfl, HF.out.1, HF.out.2⟩
        · have hs4 : n % 4 = 0 := by rw [HL.out]; exact sBody_four _
          have hsm := HR.out.soft
          simp only at hsm
          obtain ⟨hB, hnc, hcm, hnil⟩ := HN.out.at_ HL.out.symm
          have hcv := str_conv wr soft
          have hsz2 : (S soft).size = soft.length := by unfold S; simp [ByteArray.size]
          rw [hsz2] at hcv
          have hne : (S soft).toList.isEmpty = false := by
            rw [hsl]
            cases soft with
            | nil => exact absurd rfl hs
            | cons _ _ => rfl
          clear hBD hsl
          go_wp2_with fail
          refine (attr_new a n c _ 32802 (by decide) _ soft.length _ soft _ (by omega) hs4 (hB.later (str_below _ _ _)) hnil (str_byt wr _ soft) (fun e => by cases e) (by omega)).mono ?_
          rintro e w10 ⟨a10, n10, c10, rfl, hn10, hN10⟩
          have hN10' := NewB.trans (str_below wr 5 (S soft)) hN10
          have HB : Hid (n10 = BD.length ∧ NewB w1 w10 (.slice a10 n10 c10) BD ∧ n10 ≤ 600) := shid (by
            rw [← HBD.out, HA.out.1, if_pos hs, sBody_snoc]
            refine ⟨by rw [List.length_append, ← HL.out]; exact hn10, NewB.trans HN.out.1 hN10', ?_⟩
            rw [hn10, sAttr_length]
            have e2 : ((32802, soft) : Nat × List UInt8).2.length = soft.length := rfl
            rw [e2]; omega)
          clear hN10 hN10' hn10 hB HL HN HA hcv hsz2 hnil x0 x1 x2 x3 x4 x5 x6 x7
          obtain ⟨x0, x1, x2, x3, x4, x5, x6, x7⟩ := DmIs.all (DmIs.newB HM.out HB.out.2.1)
          go_wp2_with fail
          have hnB := HB.out.2.2
          have h4B : n10 % 4 = 0 := by rw [HB.out.1, ← HBD.out]; exact sBody_four _
          refine (number_new (some ⟨w10.heap.size, 0, none⟩) 0 0 2 257 (by decide) (by decide) [] _ (by omega) ⟨rfl, .inl rfl⟩ (fun e => by cases e)).mono ?_
          rintro e w2 ⟨a2, c2, rfl, hN2⟩
          have hE : Below (w10.heap.size) w10 (World.alloc w10 (.cells #[] 5)) := (Below.refl _ _).alloc (Nat.le_refl _) _
          have HN2 : Hid (NewB w10 w2 (.slice a2 2 c2) (putB 2 257 true)) := shid (NewB.trans hE (by simpa using hN2))
          clear hN2 hE
          obtain ⟨hB2, _, _, hn2⟩ := HN2.out.at_ (putB_length _ _ _)
          go_wp2_with fail
          rw [show (n10 : Int) + 8 = ((n10 + 8 : Nat) : Int) by omega]
          refine (number_new a2 2 c2 2 (n10 + 8) (by omega) (by decide) _ _ (by omega) hB2 hn2).mono ?_
          rintro e w3 ⟨a3, c3, rfl, hN3⟩
          have HN3 : Hid (NewB w10 w3 (.slice a3 4 c3) (putB 2 257 true ++ putB 2 (n10 + 8) true)) := shid (NewB.trans HN2.out.1 hN3)
          have HNB : Hid (NewB w1 w3 (.slice a10 n10 c10) BD) := shid (HB.out.2.1.later HN3.out.1)
          clear hN3 hB2 hn2 x0 x1 x2 x3 x4 x5 x6 x7
          have HWw : Hid (Below w.heap.size w w3) := shid (HW1.out.trans (HNB.out.1.mono HW1.out.size))
          go_wp2_with fail
          refine wp_region_sched' (G := Below w3.heap.size) (by kernel_rfl) (fun w => Below.refl _ w) (fun a b c h k => Below.trans h k) (by kernel_rfl) [(0, true), (2, true), (3, true), (5, true), (1, false), (4, false), (6, false), (7, true)] rfl (by kernel_rfl) ?_
          intro KK hKK
          have hX : ∀ w', Below w3.heap.size w3.drew w' → w'.cell? ⟨w.heap.size, 1, none⟩ = some (.slice ia id.length ic) := fun w' hw' => by
            have hd := DmIs.newB HM.out HNB.out
            rw [hw'.cell (p := ⟨w.heap.size, 1, none⟩) hd.lt]
            exact (DmIs.all hd).2.1
          iterate 4 (refine sched_take rfl (by rfl) (v := ?_) ?_ ?_; rotate_left; (intro w' hw'; have q1 := hX w' hw'; clear hw'; go_simp; with_reducible rfl); go_simp)
          clear hX
          obtain ⟨hB3, _, _, hn3⟩ := HN3.out.at_ (show (putB 2 257 true ++ putB 2 (n10 + 8) true).length = 4 by rw [List.length_append, putB_length, putB_length])
          have hdr : Below w3.heap.size w3 w3.drew := (Below.refl _ _).drew
          refine sched_call (f := 29) (args := #[.slice a3 4 c3, .int .i64 4, .int .u64 554869826]) rfl (by rfl) (by go_simp) ?_
          refine (number_new a3 4 c3 4 554869826 (by decide) (by decide) _ w3.drew (by omega) (hB3.later hdr) hn3).mono ?_
          rintro e w4 ⟨a4, c4, rfl, hN4⟩
          refine ⟨_, rfl, hN4.1, ?_⟩
          go_simp
          have hl4 : (putB 2 257 true ++ putB 2 (n10 + 8) true ++ putB 4 554869826 true).length = 8 := by rw [List.length_append, List.length_append, putB_length, putB_length, putB_length]
          have hb4 : Below w.heap.size w w4 := HWw.out.trans ((hdr.trans hN4.1).mono HWw.out.size)
          obtain ⟨a5, c5, w5, hap5, hN5, hb5⟩ := hN4.many2 ia id.length ic id (HI.out.later hb4) hin (by rw [hl4, HID.out]; omega)
          rw [hl4] at hap5 hN5
          have HAP5 := shid hap5
          refine sched_append rfl (by rfl) rfl (by rfl) (by rfl) HAP5.out hb5 ?_
          go_simp
          have hl5 : (putB 2 257 true ++ putB 2 (n10 + 8) true ++ putB 4 554869826 true ++ id).length = 8 + id.length := by rw [List.length_append, hl4]
          have hBD5 := (HNB.out.later (hdr.trans hN5.1)).at_ HB.out.1.symm
          obtain ⟨a6, c6, w6, hap6, hN6, hb6⟩ := hN5.many2 a10 n10 c10 BD hBD5.1 hBD5.2.2.2 (by rw [hl5, HID.out]; omega)
          rw [hl5] at hap6 hN6
          have HAP6 := shid hap6
          refine sched_append rfl (by rfl) rfl (by rfl) (by rfl) HAP6.out hb6 ?_
          obtain ⟨N, hN⟩ : ∃ N, 8 + id.length + n10 = N := ⟨_, rfl⟩
          obtain ⟨O, hO⟩ : ∃ O, putB 2 257 true ++ putB 2 (n10 + 8) true ++ putB 4 554869826 true ++ id ++ BD = O := ⟨_, rfl⟩
          rw [hN, hO] at hN6
          rw [hN]
          have HO : Hid (SM.out ⟨2, id, host, p, soft, code, reason, unk⟩ = O ∧ O.length = N ∧ N = 20 + n10) := shid ⟨by rw [← hO, HB.out.1, ← HBD.out]; rfl, by rw [← hO, List.length_append, hl5, ← HB.out.1, hN], by have := HID.out; omega⟩
          have HN6 : Hid (NewB w w6 (.slice a6 N c6) O) := shid (NewB.trans (HWw.out.trans (hdr.mono HWw.out.size)) hN6)
          clear hap5 hap6 HAP5 HAP6 hN5 hN6 hb5 hb6 hBD5 hl4 hl5 hb4 hN4 hdr hB3 hn3 hN hO HN3 HN2 HNB HWw HB
          go_simp
          iterate 1 (refine sched_take rfl (by rfl) (v := ?_) ?_ ?_; rotate_left; (intro w' hw'; go_simp; with_reducible rfl); go_simp)
          refine sched_done hKK ?_
          clear hKK
          obtain ⟨hB6, hc6, hm6, hn6⟩ := HN6.out.at_ HO.out.2.1
          obtain ⟨X, hX⟩ : ∃ X, (crcOf O).toNat ^^^ 1398035790 = X := ⟨_, rfl⟩
          have hXb : X < 4294967296 := by rw [← hX]; exact xor_lt32 _ _ (crcOf O).isLt (by decide)
          have hxr : bits .xor .u32 ((crcOf O).toNat : Int) 1398035790 = (X : Int) := by rw [← hX]; exact xorU _ 1398035790 (crcOf O).isLt (by decide)
          have HXX := shid hX
          clear hX
          have hNs : N ≤ 700 := by have := HO.out.2.2; omega
          have hN4' : N % 4 = 0 := by have := HO.out.2.2; omega
          go_wp2_with fail
          refine (refCrc_any a6 N c6 O w6 hB6 (by unfold maxLen; omega)).mono ?_
          rintro e w7 ⟨rfl, rfl⟩
          go_wp2_with fail
          refine (number_new none 0 0 4 X (by omega) (by decide) [] _ (by omega) ⟨rfl, .inl rfl⟩ (fun _ => rfl)).mono ?_
          rintro e w8 ⟨a8, c8, rfl, hN8⟩
          have hN8' : NewB w7 w8 (.slice a8 4 c8) (putB 4 X true) := by simpa using hN8
          obtain ⟨hB8, _, _, hn8⟩ := hN8'.at_ (putB_length _ _ _)
          have hb8 := hN8'.1
          have hB68 := hB6.later hb8
          clear hN8 hN8' hB6
          go_wp2_with fail
          refine (attr_new a6 N c6 O 32808 (by decide) a8 4 c8 (putB 4 X true) w8 (by omega) hN4' hB68 hn6 hB8 hn8 (by omega)).mono ?_
          rintro e w9 ⟨a9, n9, c9, rfl, hn9, hN9⟩
          have hend : encS ⟨2, id, host, p, soft, code, reason, unk⟩ = O ++ sAttr (32808, putB 4 X true) := by unfold encS sFin; rw [HO.out.1, HXX.out]
          have HF : Hid (n9 = (encS ⟨2, id, host, p, soft, code, reason, unk⟩).length ∧ NewB w w9 (.slice a9 n9 c9) (encS ⟨2, id, host, p, soft, code, reason, unk⟩)) := shid ⟨by rw [hend, List.length_append, HO.out.2.1]; exact hn9, by rw [hend]; exact NewB.trans (HN6.out.1.trans (hb8.mono HN6.out.1.size)) hN9⟩
          clear hend hN9 hn9 hB68 hB8 hb8 hn8 HN6 HO HXX
          go_wp2_with fail
          go_ret
          exact ⟨a9, n9, _, rfl, HF.out.1, HF.out.2⟩
  · obtain ⟨q, hq⟩ : ∃ q : Nat, code = (q : Int) := ⟨code.toNat, by have := (HR.out.code rfl).1; simp only at this; omega⟩
    subst hq
    have hq0 : 300 ≤ q := by have := (HR.out.code rfl).1; simp only at this; omega
    have hq1 : q ≤ 699 := by have := (HR.out.code rfl).2; simp only at this; omega
    have hrs := HR.out.reason
    simp only at hrs
    have e1 : (q : Int).tdiv 100 = ((q / 100 : Nat) : Int) := by rw [Int.tdiv_eq_ediv_of_nonneg (by omega)]; omega
    have e2 : (q : Int).tmod 100 = ((q % 100 : Nat) : Int) := by rw [Int.tmod_eq_emod_of_nonneg (by omega)]; omega
    obtain ⟨y1, hy1⟩ : ∃ y, q / 100 = y := ⟨_, rfl⟩
    obtain ⟨y2, hy2⟩ : ∃ y, q % 100 = y := ⟨_, rfl⟩
    have hy1s : y1 < 256 := by omega
    have hy2s : y2 < 256 := by omega
    have HY := shid (And.intro hy1 hy2)
    rw [hy1] at e1
    rw [hy2] at e2
    clear hy1 hy2
    have HM : Hid (DmIs (w.alloc (.cells #[.int .i64 3, .slice ia id.length ic, .int .u32 (host : Int), .int .i64 port, .string (S soft), .int .i64 (q : Int), .string (S reason), .slice ua unk.length uc] 37)) w.heap.size ⟨3, id, host, port, soft, q, reason, unk⟩ ia ic ua uc) := shid ⟨heap_alloc_new w _⟩
    have HW1 : Hid (Below w.heap.size w (w.alloc (.cells #[.int .i64 3, .slice ia id.length ic, .int .u32 (host : Int), .int .i64 port, .string (S soft), .int .i64 (q : Int), .string (S reason), .slice ua unk.length uc] 37))) := shid ((Below.refl _ _).alloc (Nat.le_refl _) _)
    have hlitc : (#[.int .u8 0, .int .u8 0, .int .u8 (y1 : Int), .int .u8 (y2 : Int)] : Array Value) = (([0, 0, UInt8.ofNat y1, UInt8.ofNat y2] : List UInt8).map bv).toArray := by simp [bv]; omega
    have HN0 := shid (NewB.lit (Below.refl _ (w.alloc (.cells #[.int .i64 3, .slice ia id.length ic, .int .u32 (host : Int), .int .i64 port, .string (S soft), .int .i64 (q : Int), .string (S reason), .slice ua unk.length uc] 37))) [] #[] rfl (by simp))
    have hsz : (w.alloc (.cells #[.int .i64 3, .slice ia id.length ic, .int .u32 (host : Int), .int .i64 port, .string (S soft), .int .i64 (q : Int), .string (S reason), .slice ua unk.length uc] 37)).heap.size = w.heap.size + 1 := World.size_alloc _ _
    have hD0 := NewB.lit (Below.refl _ ((w.alloc (.cells #[.int .i64 3, .slice ia id.length ic, .int .u32 (host : Int), .int .i64 port, .string (S soft), .int .i64 (q : Int), .string (S reason), .slice ua unk.length uc] 37)).alloc (.cells #[] 5))) [0, 0, UInt8.ofNat y1, UInt8.ofNat y2] #[.int .u8 0, .int .u8 0, .int .u8 (y1 : Int), .int .u8 (y2 : Int)] hlitc (by simp)
    obtain ⟨a5, c5, w5, hap5, hN5⟩ := hD0.str reason (by simp; omega)
    rw [World.size_alloc, hsz] at hap5
    rw [hsz] at HN0
    have HAP5 : Hid ((Builtin.append_ #[32, 9] 32 #[.slice (some ⟨w.heap.size + 1 + 1, 0, none⟩) 4 4, .string (S reason)]).run Try.prog (((w.alloc (.cells #[.int .i64 3, .slice ia id.length ic, .int .u32 (host : Int), .int .i64 port, .string (S soft), .int .i64 (q : Int), .string (S reason), .slice ua unk.length uc] 37)).alloc (.cells #[] 5)).alloc (.cells #[.int .u8 0, .int .u8 0, .int .u8 (y1 : Int), .int .u8 (y2 : Int)] 5)) = .ok (.slice a5 (4 + reason.length) c5) w5) := shid hap5
    obtain ⟨D, hD⟩ : ∃ D, ([0, 0, UInt8.ofNat y1, UInt8.ofNat y2] : List UInt8) ++ reason = D := ⟨_, rfl⟩
    have hDl : D.length = 4 + reason.length := by rw [← hD]; simp; omega
    rw [hD] at hN5
    have HN5 : Hid (NewB (w.alloc (.cells #[.int .i64 3, .slice ia id.length ic, .int .u32 (host : Int), .int .i64 port, .string (S soft), .int .i64 (q : Int), .string (S reason), .slice ua unk.length uc] 37)) w5 (.slice a5 (4 + reason.length) c5) D) := shid (NewB.trans ((Below.refl _ _).alloc (Nat.le_refl _) _) hN5)
    have HB5 := shid (HN0.out.later hN5.1)
    have HD := shid hD
    clear hsz hD0 hap5 hN5 hlitc hD
    go_enter Try.func15, Try.ntmps15
    go_wp2_with (at_builtin; refine wpList_append_run2 rfl (.tmp 42) (.tmp 44) 32 9 rfl _ _ _ _ rfl rfl HAP5.out ?_)
    generalize World.alloc w _ = w1 at HM HW1 HN0 HN5 HB5 ⊢
    obtain ⟨x0, x1, x2, x3, x4, x5, x6, x7⟩ := DmIs.all (DmIs.newB HM.out HN5.out)
    obtain ⟨hB5, _, _, hn5⟩ := HN5.out.at_ hDl
    obtain ⟨hBe, _, _, hne0⟩ := HB5.out.at_ rfl
    refine (attr_new (some ⟨w.heap.size + 1, 0, none⟩) 0 0 [] 9 (by decide) a5 (4 + reason.length) c5 D w5 (by omega) rfl hBe hne0 hB5 hn5 (by omega)).mono ?_
    rintro e w7 ⟨a7, n7, c7, rfl, hn7, hN7⟩
    have hs0 : sBody [(9, D)] = sAttr (9, D) := by simp [sBody]
    have HL7 : Hid (n7 = (sBody [(9, D)]).length) := shid (by rw [hs0, hn7, Nat.zero_add])
    have HN7 : Hid (NewB w1 w7 (.slice a7 n7 c7) (sBody [(9, D)])) := shid (by rw [hs0]; exact NewB.trans HN5.out.1 hN7)
    have hn7b : n7 ≤ 120 := by
      have e2 : ((9, D) : Nat × List UInt8).2.length = 4 + reason.length := hDl
      rw [hn7, sAttr_length, e2]; omega
    have hn74 : n7 % 4 = 0 := by rw [HL7.out]; exact sBody_four _
    clear hs0 hn7 hN7 hBe hne0 hB5 hn5 HB5 HN5 x0 x1 x2 x3 x4 x5 x6 x7 HAP5
    obtain ⟨x0, x1, x2, x3, x4, x5, x6, x7⟩ := DmIs.all (DmIs.newB HM.out HN7.out)
    have hu20 := HR.out.unk
    simp only at hu20
    by_cases hu : unk = []
    · have hu0 : ¬ (0 : Int) < (unk.length : Int) := by rw [hu]; decide
      have hu1 : ¬ 0 < unk.length := by omega
      go_wp2_with fail
      obtain ⟨A, hA⟩ : ∃ A : List (Nat × List UInt8), [(9, D)] = A := ⟨_, rfl⟩
      rw [hA] at HL7 HN7
      have HA : Hid (SM.attrs ⟨3, id, host, port, soft, q, reason, unk⟩ = A ++ (if soft ≠ [] then [(32802, soft)] else []) ∧ (sBody A).length ≤ 400) := shid ⟨by
        rw [← hA]; simp [SM.attrs, HY.out.1, HY.out.2, ← HD.out, hu], by rw [← HL7.out]; omega⟩
      clear hA hu
      go_loopw [3, 8] (fun v i wr => v = .slice a7 n7 c7 ∧ i = .int .i64 0 ∧ wr = w7) (fun _ _ _ => 0)
      case atStart => exact ⟨rfl, rfl, rfl⟩
      case round =>
        obtain ⟨rfl, rfl, rfl⟩ := hrel
        have hsl : (S soft).toList = soft := ByteArray.toList_mk soft
        have hnb : n7 ≤ 400 := by have := HA.out.2; have := HL7.out; omega
        obtain ⟨BD, hBD⟩ : ∃ BD, sBody (SM.attrs ⟨3, id, host, port, soft, q, reason, unk⟩) = BD := ⟨_, rfl⟩
        have HBD := shid hBD
        by_cases hs : soft = []
        · have HB : Hid (n7 = BD.length ∧ NewB w1 wr (.slice a7 n7 c7) BD ∧ n7 ≤ 600) := shid (by
            rw [← hBD, HA.out.1, if_neg (by simpa using hs), List.append_nil]
            exact ⟨HL7.out, HN7.out, by omega⟩)
          have hsl2 : (S soft).toList = [] := by rw [hsl, hs]
          clear HL7 HN7 HA hsl hs hBD
          go_wp2_with fail
          have hnB := HB.out.2.2
          have h4B : n7 % 4 = 0 := by rw [HB.out.1, ← HBD.out]; exact sBody_four _
          refine (number_new (some ⟨wr.heap.size, 0, none⟩) 0 0 2 273 (by decide) (by decide) [] _ (by omega) ⟨rfl, .inl rfl⟩ (fun e => by cases e)).mono ?_
          rintro e w2 ⟨a2, c2, rfl, hN2⟩
          have hE : Below (wr.heap.size) wr (World.alloc wr (.cells #[] 5)) := (Below.refl _ _).alloc (Nat.le_refl _) _
          have HN2 : Hid (NewB wr w2 (.slice a2 2 c2) (putB 2 273 true)) := shid (NewB.trans hE (by simpa using hN2))
          clear hN2 hE
          obtain ⟨hB2, _, _, hn2⟩ := HN2.out.at_ (putB_length _ _ _)
          go_wp2_with fail
          rw [show (n7 : Int) + 8 = ((n7 + 8 : Nat) : Int) by omega]
          refine (number_new a2 2 c2 2 (n7 + 8) (by omega) (by decide) _ _ (by omega) hB2 hn2).mono ?_
          rintro e w3 ⟨a3, c3, rfl, hN3⟩
          have HN3 : Hid (NewB wr w3 (.slice a3 4 c3) (putB 2 273 true ++ putB 2 (n7 + 8) true)) := shid (NewB.trans HN2.out.1 hN3)
          have HNB : Hid (NewB w1 w3 (.slice a7 n7 c7) BD) := shid (HB.out.2.1.later HN3.out.1)
          clear hN3 hB2 hn2 x0 x1 x2 x3 x4 x5 x6 x7
          have HWw : Hid (Below w.heap.size w w3) := shid (HW1.out.trans (HNB.out.1.mono HW1.out.size))
          go_wp2_with fail
          refine wp_region_sched' (G := Below w3.heap.size) (by kernel_rfl) (fun w => Below.refl _ w) (fun a7 b c7 h k => Below.trans h k) (by kernel_rfl) [(0, true), (2, true), (3, true), (5, true), (1, false), (4, false), (6, false), (7, true)] rfl (by kernel_rfl) ?_
          intro KK hKK
          have hX : ∀ w', Below w3.heap.size w3.drew w' → w'.cell? ⟨w.heap.size, 1, none⟩ = some (.slice ia id.length ic) := fun w' hw' => by
            have hd := DmIs.newB HM.out HNB.out
            rw [hw'.cell (p := ⟨w.heap.size, 1, none⟩) hd.lt]
            exact (DmIs.all hd).2.1
          iterate 4 (refine sched_take rfl (by rfl) (v := ?_) ?_ ?_; rotate_left; (intro w' hw'; have q1 := hX w' hw'; clear hw'; go_simp; with_reducible rfl); go_simp)
          clear hX
          obtain ⟨hB3, _, _, hn3⟩ := HN3.out.at_ (show (putB 2 273 true ++ putB 2 (n7 + 8) true).length = 4 by rw [List.length_append, putB_length, putB_length])
          have hdr : Below w3.heap.size w3 w3.drew := (Below.refl _ _).drew
          refine sched_call (f := 29) (args := #[.slice a3 4 c3, .int .i64 4, .int .u64 554869826]) rfl (by rfl) (by go_simp) ?_
          refine (number_new a3 4 c3 4 554869826 (by decide) (by decide) _ w3.drew (by omega) (hB3.later hdr) hn3).mono ?_
          rintro e w4 ⟨a4, c4, rfl, hN4⟩
          refine ⟨_, rfl, hN4.1, ?_⟩
          go_simp
          have hl4 : (putB 2 273 true ++ putB 2 (n7 + 8) true ++ putB 4 554869826 true).length = 8 := by rw [List.length_append, List.length_append, putB_length, putB_length, putB_length]
          have hb4 : Below w.heap.size w w4 := HWw.out.trans ((hdr.trans hN4.1).mono HWw.out.size)
          obtain ⟨a5, c5, w5, hap5, hN5, hb5⟩ := hN4.many2 ia id.length ic id (HI.out.later hb4) hin (by rw [hl4, HID.out]; omega)
          rw [hl4] at hap5 hN5
          have HAP5 := shid hap5
          refine sched_append rfl (by rfl) rfl (by rfl) (by rfl) HAP5.out hb5 ?_
          go_simp
          have hl5 : (putB 2 273 true ++ putB 2 (n7 + 8) true ++ putB 4 554869826 true ++ id).length = 8 + id.length := by rw [List.length_append, hl4]
          have hBD5 := (HNB.out.later (hdr.trans hN5.1)).at_ HB.out.1.symm
          obtain ⟨a6, c6, w6, hap6, hN6, hb6⟩ := hN5.many2 a7 n7 c7 BD hBD5.1 hBD5.2.2.2 (by rw [hl5, HID.out]; omega)
          rw [hl5] at hap6 hN6
          have HAP6 := shid hap6
          refine sched_append rfl (by rfl) rfl (by rfl) (by rfl) HAP6.out hb6 ?_
          obtain ⟨N, hN⟩ : ∃ N, 8 + id.length + n7 = N := ⟨_, rfl⟩
          obtain ⟨O, hO⟩ : ∃ O, putB 2 273 true ++ putB 2 (n7 + 8) true ++ putB 4 554869826 true ++ id ++ BD = O := ⟨_, rfl⟩
          rw [hN, hO] at hN6
          rw [hN]
          have HO : Hid (SM.out ⟨3, id, host, port, soft, q, reason, unk⟩ = O ∧ O.length = N ∧ N = 20 + n7) := shid ⟨by rw [← hO, HB.out.1, ← HBD.out]; rfl, by rw [← hO, List.length_append, hl5, ← HB.out.1, hN], by have := HID.out; omega⟩
          have HN6 : Hid (NewB w w6 (.slice a6 N c6) O) := shid (NewB.trans (HWw.out.trans (hdr.mono HWw.out.size)) hN6)
          clear hap5 hap6 HAP5 HAP6 hN5 hN6 hb5 hb6 hBD5 hl4 hl5 hb4 hN4 hdr hB3 hn3 hN hO HN3 HN2 HNB HWw HB
          go_simp
          iterate 1 (refine sched_take rfl (by rfl) (v := ?_) ?_ ?_; rotate_left; (intro w' hw'; go_simp; with_reducible rfl); go_simp)
          refine sched_done hKK ?_
          clear hKK
          obtain ⟨hB6, hc6, hm6, hn6⟩ := HN6.out.at_ HO.out.2.1
          obtain ⟨X, hX⟩ : ∃ X, (crcOf O).toNat ^^^ 1398035790 = X := ⟨_, rfl⟩
          have hXb : X < 4294967296 := by rw [← hX]; exact xor_lt32 _ _ (crcOf O).isLt (by decide)
          have hxr : bits .xor .u32 ((crcOf O).toNat : Int) 1398035790 = (X : Int) := by rw [← hX]; exact xorU _ 1398035790 (crcOf O).isLt (by decide)
          have HXX := shid hX
          clear hX
          have hNs : N ≤ 700 := by have := HO.out.2.2; omega
          have hN4' : N % 4 = 0 := by have := HO.out.2.2; omega
          go_wp2_with fail
          refine (refCrc_any a6 N c6 O w6 hB6 (by unfold maxLen; omega)).mono ?_
          rintro e w7 ⟨rfl, rfl⟩
          go_wp2_with fail
          refine (number_new none 0 0 4 X (by omega) (by decide) [] _ (by omega) ⟨rfl, .inl rfl⟩ (fun _ => rfl)).mono ?_
          rintro e w8 ⟨a8, c8, rfl, hN8⟩
          have hN8' : NewB w7 w8 (.slice a8 4 c8) (putB 4 X true) := by simpa using hN8
          obtain ⟨hB8, _, _, hn8⟩ := hN8'.at_ (putB_length _ _ _)
          have hb8 := hN8'.1
          have hB68 := hB6.later hb8
          clear hN8 hN8' hB6
          go_wp2_with fail
          refine (attr_new a6 N c6 O 32808 (by decide) a8 4 c8 (putB 4 X true) w8 (by omega) hN4' hB68 hn6 hB8 hn8 (by omega)).mono ?_
          rintro e w9 ⟨a9, n9, c9, rfl, hn9, hN9⟩
          have hend : encS ⟨3, id, host, port, soft, q, reason, unk⟩ = O ++ sAttr (32808, putB 4 X true) := by unfold encS sFin; rw [HO.out.1, HXX.out]
          have HF : Hid (n9 = (encS ⟨3, id, host, port, soft, q, reason, unk⟩).length ∧ NewB w w9 (.slice a9 n9 c9) (encS ⟨3, id, host, port, soft, q, reason, unk⟩)) := shid ⟨by rw [hend, List.length_append, HO.out.2.1]; exact hn9, by rw [hend]; exact NewB.trans (HN6.out.1.trans (hb8.mono HN6.out.1.size)) hN9⟩
          clear hend hN9 hn9 hB68 hB8 hb8 hn8 HN6 HO HXX
          go_wp2_with fail
          go_ret
          exact ⟨a9, n9, _, rfl, HF.out.1, HF.out.2⟩
        · have hs4 : n7 % 4 = 0 := by rw [HL7.out]; exact sBody_four _
          have hsm := HR.out.soft
          simp only at hsm
          obtain ⟨hB, hnc, hcm, hnil⟩ := HN7.out.at_ HL7.out.symm
          have hcv := str_conv wr soft
          have hsz2 : (S soft).size = soft.length := by unfold S; simp [ByteArray.size]
          rw [hsz2] at hcv
          have hne : (S soft).toList.isEmpty = false := by
            rw [hsl]
            cases soft with
            | nil => exact absurd rfl hs
            | cons _ _ => rfl
          clear hBD hsl
          go_wp2_with fail
          refine (attr_new a7 n7 c7 _ 32802 (by decide) _ soft.length _ soft _ (by omega) hs4 (hB.later (str_below _ _ _)) hnil (str_byt wr _ soft) (fun e => by cases e) (by omega)).mono ?_
          rintro e w10 ⟨a10, n10, c10, rfl, hn10, hN10⟩
          have hN10' := NewB.trans (str_below wr 5 (S soft)) hN10
          have HB : Hid (n10 = BD.length ∧ NewB w1 w10 (.slice a10 n10 c10) BD ∧ n10 ≤ 600) := shid (by
            rw [← HBD.out, HA.out.1, if_pos hs, sBody_snoc]
            refine ⟨by rw [List.length_append, ← HL7.out]; exact hn10, NewB.trans HN7.out.1 hN10', ?_⟩
            rw [hn10, sAttr_length]
            have e2 : ((32802, soft) : Nat × List UInt8).2.length = soft.length := rfl
            rw [e2]; omega)
          clear hN10 hN10' hn10 hB HL7 HN7 HA hcv hsz2 hnil x0 x1 x2 x3 x4 x5 x6 x7
          obtain ⟨x0, x1, x2, x3, x4, x5, x6, x7⟩ := DmIs.all (DmIs.newB HM.out HB.out.2.1)
          go_wp2_with fail
          have hnB := HB.out.2.2
          have h4B : n10 % 4 = 0 := by rw [HB.out.1, ← HBD.out]; exact sBody_four _
          refine (number_new (some ⟨w10.heap.size, 0, none⟩) 0 0 2 273 (by decide) (by decide) [] _ (by omega) ⟨rfl, .inl rfl⟩ (fun e => by cases e)).mono ?_
          rintro e w2 ⟨a2, c2, rfl, hN2⟩
          have hE : Below (w10.heap.size) w10 (World.alloc w10 (.cells #[] 5)) := (Below.refl _ _).alloc (Nat.le_refl _) _
          have HN2 : Hid (NewB w10 w2 (.slice a2 2 c2) (putB 2 273 true)) := shid (NewB.trans hE (by simpa using hN2))
          clear hN2 hE
          obtain ⟨hB2, _, _, hn2⟩ := HN2.out.at_ (putB_length _ _ _)
          go_wp2_with fail
          rw [show (n10 : Int) + 8 = ((n10 + 8 : Nat) : Int) by omega]
          refine (number_new a2 2 c2 2 (n10 + 8) (by omega) (by decide) _ _ (by omega) hB2 hn2).mono ?_
          rintro e w3 ⟨a3, c3, rfl, hN3⟩
          have HN3 : Hid (NewB w10 w3 (.slice a3 4 c3) (putB 2 273 true ++ putB 2 (n10 + 8) true)) := shid (NewB.trans HN2.out.1 hN3)
          have HNB : Hid (NewB w1 w3 (.slice a10 n10 c10) BD) := shid (HB.out.2.1.later HN3.out.1)
          clear hN3 hB2 hn2 x0 x1 x2 x3 x4 x5 x6 x7
          have HWw : Hid (Below w.heap.size w w3) := shid (HW1.out.trans (HNB.out.1.mono HW1.out.size))
          go_wp2_with fail
          refine wp_region_sched' (G := Below w3.heap.size) (by kernel_rfl) (fun w => Below.refl _ w) (fun a7 b c7 h k => Below.trans h k) (by kernel_rfl) [(0, true), (2, true), (3, true), (5, true), (1, false), (4, false), (6, false), (7, true)] rfl (by kernel_rfl) ?_
          intro KK hKK
          have hX : ∀ w', Below w3.heap.size w3.drew w' → w'.cell? ⟨w.heap.size, 1, none⟩ = some (.slice ia id.length ic) := fun w' hw' => by
            have hd := DmIs.newB HM.out HNB.out
            rw [hw'.cell (p := ⟨w.heap.size, 1, none⟩) hd.lt]
            exact (DmIs.all hd).2.1
          iterate 4 (refine sched_take rfl (by rfl) (v := ?_) ?_ ?_; rotate_left; (intro w' hw'; have q1 := hX w' hw'; clear hw'; go_simp; with_reducible rfl); go_simp)
          clear hX
          obtain ⟨hB3, _, _, hn3⟩ := HN3.out.at_ (show (putB 2 273 true ++ putB 2 (n10 + 8) true).length = 4 by rw [List.length_append, putB_length, putB_length])
          have hdr : Below w3.heap.size w3 w3.drew := (Below.refl _ _).drew
          refine sched_call (f := 29) (args := #[.slice a3 4 c3, .int .i64 4, .int .u64 554869826]) rfl (by rfl) (by go_simp) ?_
          refine (number_new a3 4 c3 4 554869826 (by decide) (by decide) _ w3.drew (by omega) (hB3.later hdr) hn3).mono ?_
          rintro e w4 ⟨a4, c4, rfl, hN4⟩
          refine ⟨_, rfl, hN4.1, ?_⟩
          go_simp
          have hl4 : (putB 2 273 true ++ putB 2 (n10 + 8) true ++ putB 4 554869826 true).length = 8 := by rw [List.length_append, List.length_append, putB_length, putB_length, putB_length]
          have hb4 : Below w.heap.size w w4 := HWw.out.trans ((hdr.trans hN4.1).mono HWw.out.size)
          obtain ⟨a5, c5, w5, hap5, hN5, hb5⟩ := hN4.many2 ia id.length ic id (HI.out.later hb4) hin (by rw [hl4, HID.out]; omega)
          rw [hl4] at hap5 hN5
          have HAP5 := shid hap5
          refine sched_append rfl (by rfl) rfl (by rfl) (by rfl) HAP5.out hb5 ?_
          go_simp
          have hl5 : (putB 2 273 true ++ putB 2 (n10 + 8) true ++ putB 4 554869826 true ++ id).length = 8 + id.length := by rw [List.length_append, hl4]
          have hBD5 := (HNB.out.later (hdr.trans hN5.1)).at_ HB.out.1.symm
          obtain ⟨a6, c6, w6, hap6, hN6, hb6⟩ := hN5.many2 a10 n10 c10 BD hBD5.1 hBD5.2.2.2 (by rw [hl5, HID.out]; omega)
          rw [hl5] at hap6 hN6
          have HAP6 := shid hap6
          refine sched_append rfl (by rfl) rfl (by rfl) (by rfl) HAP6.out hb6 ?_
          obtain ⟨N, hN⟩ : ∃ N, 8 + id.length + n10 = N := ⟨_, rfl⟩
          obtain ⟨O, hO⟩ : ∃ O, putB 2 273 true ++ putB 2 (n10 + 8) true ++ putB 4 554869826 true ++ id ++ BD = O := ⟨_, rfl⟩
          rw [hN, hO] at hN6
          rw [hN]
          have HO : Hid (SM.out ⟨3, id, host, port, soft, q, reason, unk⟩ = O ∧ O.length = N ∧ N = 20 + n10) := shid ⟨by rw [← hO, HB.out.1, ← HBD.out]; rfl, by rw [← hO, List.length_append, hl5, ← HB.out.1, hN], by have := HID.out; omega⟩
          have HN6 : Hid (NewB w w6 (.slice a6 N c6) O) := shid (NewB.trans (HWw.out.trans (hdr.mono HWw.out.size)) hN6)
          clear hap5 hap6 HAP5 HAP6 hN5 hN6 hb5 hb6 hBD5 hl4 hl5 hb4 hN4 hdr hB3 hn3 hN hO HN3 HN2 HNB HWw HB
          go_simp
          iterate 1 (refine sched_take rfl (by rfl) (v := ?_) ?_ ?_; rotate_left; (intro w' hw'; go_simp; with_reducible rfl); go_simp)
          refine sched_done hKK ?_
          clear hKK
          obtain ⟨hB6, hc6, hm6, hn6⟩ := HN6.out.at_ HO.out.2.1
          obtain ⟨X, hX⟩ : ∃ X, (crcOf O).toNat ^^^ 1398035790 = X := ⟨_, rfl⟩
          have hXb : X < 4294967296 := by rw [← hX]; exact xor_lt32 _ _ (crcOf O).isLt (by decide)
          have hxr : bits .xor .u32 ((crcOf O).toNat : Int) 1398035790 = (X : Int) := by rw [← hX]; exact xorU _ 1398035790 (crcOf O).isLt (by decide)
          have HXX := shid hX
          clear hX
          have hNs : N ≤ 700 := by have := HO.out.2.2; omega
          have hN4' : N % 4 = 0 := by have := HO.out.2.2; omega
          go_wp2_with fail
          refine (refCrc_any a6 N c6 O w6 hB6 (by unfold maxLen; omega)).mono ?_
          rintro e w7 ⟨rfl, rfl⟩
          go_wp2_with fail
          refine (number_new none 0 0 4 X (by omega) (by decide) [] _ (by omega) ⟨rfl, .inl rfl⟩ (fun _ => rfl)).mono ?_
          rintro e w8 ⟨a8, c8, rfl, hN8⟩
          have hN8' : NewB w7 w8 (.slice a8 4 c8) (putB 4 X true) := by simpa using hN8
          obtain ⟨hB8, _, _, hn8⟩ := hN8'.at_ (putB_length _ _ _)
          have hb8 := hN8'.1
          have hB68 := hB6.later hb8
          clear hN8 hN8' hB6
          go_wp2_with fail
          refine (attr_new a6 N c6 O 32808 (by decide) a8 4 c8 (putB 4 X true) w8 (by omega) hN4' hB68 hn6 hB8 hn8 (by omega)).mono ?_
          rintro e w9 ⟨a9, n9, c9, rfl, hn9, hN9⟩
          have hend : encS ⟨3, id, host, port, soft, q, reason, unk⟩ = O ++ sAttr (32808, putB 4 X true) := by unfold encS sFin; rw [HO.out.1, HXX.out]
          have HF : Hid (n9 = (encS ⟨3, id, host, port, soft, q, reason, unk⟩).length ∧ NewB w w9 (.slice a9 n9 c9) (encS ⟨3, id, host, port, soft, q, reason, unk⟩)) := shid ⟨by rw [hend, List.length_append, HO.out.2.1]; exact hn9, by rw [hend]; exact NewB.trans (HN6.out.1.trans (hb8.mono HN6.out.1.size)) hN9⟩
          clear hend hN9 hn9 hB68 hB8 hb8 hn8 HN6 HO HXX
          go_wp2_with fail
          go_ret
          exact ⟨a9, n9, _, rfl, HF.out.1, HF.out.2⟩
    · have hu0 : (0 : Int) < (unk.length : Int) := by
        have : unk.length ≠ 0 := fun e => hu (List.length_eq_zero_iff.1 e)
        omega
      have hu1 : 0 < unk.length := by omega
      go_wp2_with fail
      have HU0 : Hid (NewB w7 (w7.alloc (.cells #[] 5)) (.slice (some ⟨w7.heap.size, 0, none⟩) 0 0) (sUnk (unk.take 0))) := shid (NewB.lit (Below.refl _ w7) [] #[] rfl (by simp))
      clear x0 x1 x2 x3 x4 x5 x6 x7
      go_loopw [6, 7] (fun v i wr => ∃ (k n c : Nat) (a : Option Addr), k ≤ unk.length ∧ i = .int .i64 k ∧ v = .slice a n c ∧ n = 2 * k ∧ Hid (NewB w7 wr (.slice a n c) (sUnk (unk.take k)))) (fun _ i _ => unk.length - (intOf i).toNat)
      case atStart => exact ⟨0, _, _, _, Nat.zero_le _, rfl, rfl, rfl, HU0⟩
      case round =>
        clear HU0
        obtain ⟨k, n, c, a, hk, rfl, rfl, hn, HN⟩ := hrel
        obtain ⟨x0, x1, x2, x3, x4, x5, x6, x7⟩ := DmIs.all (DmIs.newB HM.out (HN7.out.later HN.out.1))
        by_cases hlt : k < unk.length
        · have i1 : (k : Int) < (unk.length : Int) := by omega
          obtain ⟨b, off, rfl, hbw, hc0⟩ := HU.out.at_ k hlt
          have hc := hc0
          have hbl := HW1.out.trans ((HN7.out.later HN.out.1).1.mono HW1.out.size)
          rw [← hbl.cell (p := ⟨b, off + k, none⟩) hbw] at hc
          obtain ⟨y, hy⟩ : ∃ y : Nat, unk[k] = (y : Int) := ⟨unk[k].toNat, by have := (HR.out.nums unk[k] (List.getElem_mem hlt)).1; omega⟩
          have hyn := (HR.out.nums unk[k] (List.getElem_mem hlt)).2.1
          have hsn := sUnk_take unk k hlt
          rw [hy] at hc hyn hsn
          have HS := shid hsn
          obtain ⟨hB, hnc, hcm, hnil⟩ := HN.out.at_ (show (sUnk (unk.take k)).length = n by rw [sUnk_length, List.length_take, hn]; omega)
          clear hc0 hbl hy hsn
          have hns : n ≤ 40 := by omega
          have Hn := shid hn
          clear hn
          go_wp2_with fail
          refine (number_new a n c 2 y (by omega) (by decide) _ _ (by omega) hB hnil).mono ?_
          rintro e w5 ⟨a5, c5, rfl, hN5⟩
          have HN5 : Hid (NewB w7 w5 (.slice a5 (n + 2) c5) (sUnk (unk.take (k + 1)))) := shid (by rw [HS.out]; exact NewB.trans HN.out.1 hN5)
          have He : Hid (n + 2 = 2 * (k + 1)) := shid (by have := Hn.out; omega)
          clear hB hN5 HN HS x0 x1 x2 x3 x4 x5 x6 x7 hc hnil Hn
          go_wp2_with fail
          exact ⟨⟨k + 1, n + 2, _, a5, by omega, by go_num, rfl, He.out, HN5⟩, by simp [intOf]; omega⟩
        · have i1 : ¬ (k : Int) < (unk.length : Int) := by omega
          rw [List.take_of_length_le (show unk.length ≤ k by omega)] at HN
          have hns : n ≤ 40 := by omega
          have hlu : (sUnk unk).length = n := by rw [sUnk_length, hn]; omega
          obtain ⟨hB, hnc, hcm, hnil⟩ := HN.out.at_ hlu
          obtain ⟨hB7, _, _, hn7n⟩ := (HN7.out.later HN.out.1).at_ HL7.out.symm
          have Hn := shid hn
          clear hn
          go_wp2_with fail
          refine (attr_new a7 n7 c7 _ 10 (by decide) a n c (sUnk unk) wr (by omega) hn74 hB7 hn7n hB hnil (by omega)).mono ?_
          rintro e w9 ⟨a9, n9, c9, rfl, hn9, hN9⟩
          obtain ⟨A, hA⟩ : ∃ A : List (Nat × List UInt8), [(9, D)] ++ [(10, sUnk unk)] = A := ⟨_, rfl⟩
          have hs9 : sBody A = sBody [(9, D)] ++ sAttr (10, sUnk unk) := by rw [← hA, sBody_snoc]
          have hL9 : n9 = (sBody A).length := by rw [hs9, List.length_append, ← HL7.out]; exact hn9
          have HL9 := shid hL9
          have HN9 : Hid (NewB w1 w9 (.slice a9 n9 c9) (sBody A)) := shid (by rw [hs9]; exact NewB.trans (HN7.out.later HN.out.1).1 hN9)
          have HA : Hid (SM.attrs ⟨3, id, host, port, soft, q, reason, unk⟩ = A ++ (if soft ≠ [] then [(32802, soft)] else []) ∧ (sBody A).length ≤ 400) := shid ⟨by
            rw [← hA]; simp [SM.attrs, HY.out.1, HY.out.2, ← HD.out, hu], by
            rw [← hL9, hn9, sAttr_length]
            have e2 : ((10, sUnk unk) : Nat × List UInt8).2.length = n := hlu
            rw [e2]; omega⟩
          clear hA hu hs9 hL9 hn9 hN9 hB7 hn7n hB hnil HN HN7 HL7 x0 x1 x2 x3 x4 x5 x6 x7 hlu Hn
          obtain ⟨x0, x1, x2, x3, x4, x5, x6, x7⟩ := DmIs.all (DmIs.newB HM.out HN9.out)
          go_wp2_with fail
          go_loopw [3, 8] (fun v i wr => v = .slice a9 n9 c9 ∧ i = .int .i64 0 ∧ wr = w9) (fun _ _ _ => 0)
          case atStart => exact ⟨rfl, rfl, rfl⟩
          case round =>
            obtain ⟨rfl, rfl, rfl⟩ := hrel
            have hsl : (S soft).toList = soft := ByteArray.toList_mk soft
            have hnb : n9 ≤ 400 := by have := HA.out.2; have := HL9.out; omega
            obtain ⟨BD, hBD⟩ : ∃ BD, sBody (SM.attrs ⟨3, id, host, port, soft, q, reason, unk⟩) = BD := ⟨_, rfl⟩
            have HBD := shid hBD
            by_cases hs : soft = []
            · have HB : Hid (n9 = BD.length ∧ NewB w1 wr (.slice a9 n9 c9) BD ∧ n9 ≤ 600) := shid (by
                rw [← hBD, HA.out.1, if_neg (by simpa using hs), List.append_nil]
                exact ⟨HL9.out, HN9.out, by omega⟩)
              have hsl2 : (S soft).toList = [] := by rw [hsl, hs]
              clear HL9 HN9 HA hsl hs hBD
              go_wp2_with fail
              have hnB := HB.out.2.2
              have h4B : n9 % 4 = 0 := by rw [HB.out.1, ← HBD.out]; exact sBody_four _
              refine (number_new (some ⟨wr.heap.size, 0, none⟩) 0 0 2 273 (by decide) (by decide) [] _ (by omega) ⟨rfl, .inl rfl⟩ (fun e => by cases e)).mono ?_
              rintro e w2 ⟨a2, c2, rfl, hN2⟩
              have hE : Below (wr.heap.size) wr (World.alloc wr (.cells #[] 5)) := (Below.refl _ _).alloc (Nat.le_refl _) _
              have HN2 : Hid (NewB wr w2 (.slice a2 2 c2) (putB 2 273 true)) := shid (NewB.trans hE (by simpa using hN2))
              clear hN2 hE
              obtain ⟨hB2, _, _, hn2⟩ := HN2.out.at_ (putB_length _ _ _)
              go_wp2_with fail
              rw [show (n9 : Int) + 8 = ((n9 + 8 : Nat) : Int) by omega]
              refine (number_new a2 2 c2 2 (n9 + 8) (by omega) (by decide) _ _ (by omega) hB2 hn2).mono ?_
              rintro e w3 ⟨a3, c3, rfl, hN3⟩
              have HN3 : Hid (NewB wr w3 (.slice a3 4 c3) (putB 2 273 true ++ putB 2 (n9 + 8) true)) := shid (NewB.trans HN2.out.1 hN3)
              have HNB : Hid (NewB w1 w3 (.slice a9 n9 c9) BD) := shid (HB.out.2.1.later HN3.out.1)
              clear hN3 hB2 hn2 x0 x1 x2 x3 x4 x5 x6 x7
              have HWw : Hid (Below w.heap.size w w3) := shid (HW1.out.trans (HNB.out.1.mono HW1.out.size))
              go_wp2_with fail
              refine wp_region_sched' (G := Below w3.heap.size) (by kernel_rfl) (fun w => Below.refl _ w) (fun a9 b c9 h k => Below.trans h k) (by kernel_rfl) [(0, true), (2, true), (3, true), (5, true), (1, false), (4, false), (6, false), (7, true)] rfl (by kernel_rfl) ?_
              intro KK hKK
              have hX : ∀ w', Below w3.heap.size w3.drew w' → w'.cell? ⟨w.heap.size, 1, none⟩ = some (.slice ia id.length ic) := fun w' hw' => by
                have hd := DmIs.newB HM.out HNB.out
                rw [hw'.cell (p := ⟨w.heap.size, 1, none⟩) hd.lt]
                exact (DmIs.all hd).2.1
              iterate 4 (refine sched_take rfl (by rfl) (v := ?_) ?_ ?_; rotate_left; (intro w' hw'; have q1 := hX w' hw'; clear hw'; go_simp; with_reducible rfl); go_simp)
              clear hX
              obtain ⟨hB3, _, _, hn3⟩ := HN3.out.at_ (show (putB 2 273 true ++ putB 2 (n9 + 8) true).length = 4 by rw [List.length_append, putB_length, putB_length])
              have hdr : Below w3.heap.size w3 w3.drew := (Below.refl _ _).drew
              refine sched_call (f := 29) (args := #[.slice a3 4 c3, .int .i64 4, .int .u64 554869826]) rfl (by rfl) (by go_simp) ?_
              refine (number_new a3 4 c3 4 554869826 (by decide) (by decide) _ w3.drew (by omega) (hB3.later hdr) hn3).mono ?_
              rintro e w4 ⟨a4, c4, rfl, hN4⟩
              refine ⟨_, rfl, hN4.1, ?_⟩
              go_simp
              have hl4 : (putB 2 273 true ++ putB 2 (n9 + 8) true ++ putB 4 554869826 true).length = 8 := by rw [List.length_append, List.length_append, putB_length, putB_length, putB_length]
              have hb4 : Below w.heap.size w w4 := HWw.out.trans ((hdr.trans hN4.1).mono HWw.out.size)
              obtain ⟨a5, c5, w5, hap5, hN5, hb5⟩ := hN4.many2 ia id.length ic id (HI.out.later hb4) hin (by rw [hl4, HID.out]; omega)
              rw [hl4] at hap5 hN5
              have HAP5 := shid hap5
              refine sched_append rfl (by rfl) rfl (by rfl) (by rfl) HAP5.out hb5 ?_
              go_simp
              have hl5 : (putB 2 273 true ++ putB 2 (n9 + 8) true ++ putB 4 554869826 true ++ id).length = 8 + id.length := by rw [List.length_append, hl4]
              have hBD5 := (HNB.out.later (hdr.trans hN5.1)).at_ HB.out.1.symm
              obtain ⟨a6, c6, w6, hap6, hN6, hb6⟩ := hN5.many2 a9 n9 c9 BD hBD5.1 hBD5.2.2.2 (by rw [hl5, HID.out]; omega)
              rw [hl5] at hap6 hN6
              have HAP6 := shid hap6
              refine sched_append rfl (by rfl) rfl (by rfl) (by rfl) HAP6.out hb6 ?_
              obtain ⟨N, hN⟩ : ∃ N, 8 + id.length + n9 = N := ⟨_, rfl⟩
              obtain ⟨O, hO⟩ : ∃ O, putB 2 273 true ++ putB 2 (n9 + 8) true ++ putB 4 554869826 true ++ id ++ BD = O := ⟨_, rfl⟩
              rw [hN, hO] at hN6
              rw [hN]
              have HO : Hid (SM.out ⟨3, id, host, port, soft, q, reason, unk⟩ = O ∧ O.length = N ∧ N = 20 + n9) := shid ⟨by rw [← hO, HB.out.1, ← HBD.out]; rfl, by rw [← hO, List.length_append, hl5, ← HB.out.1, hN], by have := HID.out; omega⟩
              have HN6 : Hid (NewB w w6 (.slice a6 N c6) O) := shid (NewB.trans (HWw.out.trans (hdr.mono HWw.out.size)) hN6)
              clear hap5 hap6 HAP5 HAP6 hN5 hN6 hb5 hb6 hBD5 hl4 hl5 hb4 hN4 hdr hB3 hn3 hN hO HN3 HN2 HNB HWw HB
              go_simp
              iterate 1 (refine sched_take rfl (by rfl) (v := ?_) ?_ ?_; rotate_left; (intro w' hw'; go_simp; with_reducible rfl); go_simp)
              refine sched_done hKK ?_
              clear hKK
              obtain ⟨hB6, hc6, hm6, hn6⟩ := HN6.out.at_ HO.out.2.1
              obtain ⟨X, hX⟩ : ∃ X, (crcOf O).toNat ^^^ 1398035790 = X := ⟨_, rfl⟩
              have hXb : X < 4294967296 := by rw [← hX]; exact xor_lt32 _ _ (crcOf O).isLt (by decide)
              have hxr : bits .xor .u32 ((crcOf O).toNat : Int) 1398035790 = (X : Int) := by rw [← hX]; exact xorU _ 1398035790 (crcOf O).isLt (by decide)
              have HXX := shid hX
              clear hX
              have hNs : N ≤ 700 := by have := HO.out.2.2; omega
              have hN4' : N % 4 = 0 := by have := HO.out.2.2; omega
              go_wp2_with fail
              refine (refCrc_any a6 N c6 O w6 hB6 (by unfold maxLen; omega)).mono ?_
              rintro e w7 ⟨rfl, rfl⟩
              go_wp2_with fail
              refine (number_new none 0 0 4 X (by omega) (by decide) [] _ (by omega) ⟨rfl, .inl rfl⟩ (fun _ => rfl)).mono ?_
              rintro e w8 ⟨a8, c8, rfl, hN8⟩
              have hN8' : NewB w7 w8 (.slice a8 4 c8) (putB 4 X true) := by simpa using hN8
              obtain ⟨hB8, _, _, hn8⟩ := hN8'.at_ (putB_length _ _ _)
              have hb8 := hN8'.1
              have hB68 := hB6.later hb8
              clear hN8 hN8' hB6
              go_wp2_with fail
              refine (attr_new a6 N c6 O 32808 (by decide) a8 4 c8 (putB 4 X true) w8 (by omega) hN4' hB68 hn6 hB8 hn8 (by omega)).mono ?_
              rintro e w9 ⟨a9, n9, c9, rfl, hn9, hN9⟩
              have hend : encS ⟨3, id, host, port, soft, q, reason, unk⟩ = O ++ sAttr (32808, putB 4 X true) := by unfold encS sFin; rw [HO.out.1, HXX.out]
              have HF : Hid (n9 = (encS ⟨3, id, host, port, soft, q, reason, unk⟩).length ∧ NewB w w9 (.slice a9 n9 c9) (encS ⟨3, id, host, port, soft, q, reason, unk⟩)) := shid ⟨by rw [hend, List.length_append, HO.out.2.1]; exact hn9, by rw [hend]; exact NewB.trans (HN6.out.1.trans (hb8.mono HN6.out.1.size)) hN9⟩
              clear hend hN9 hn9 hB68 hB8 hb8 hn8 HN6 HO HXX
              go_wp2_with fail
              go_ret
              exact ⟨a9, n9, _, rfl, HF.out.1, HF.out.2⟩
            · have hs4 : n9 % 4 = 0 := by rw [HL9.out]; exact sBody_four _
              have hsm := HR.out.soft
              simp only at hsm
              obtain ⟨hB, hnc, hcm, hnil⟩ := HN9.out.at_ HL9.out.symm
              have hcv := str_conv wr soft
              have hsz2 : (S soft).size = soft.length := by unfold S; simp [ByteArray.size]
              rw [hsz2] at hcv
              have hne : (S soft).toList.isEmpty = false := by
                rw [hsl]
                cases soft with
                | nil => exact absurd rfl hs
                | cons _ _ => rfl
              clear hBD hsl
              go_wp2_with fail
              refine (attr_new a9 n9 c9 _ 32802 (by decide) _ soft.length _ soft _ (by omega) hs4 (hB.later (str_below _ _ _)) hnil (str_byt wr _ soft) (fun e => by cases e) (by omega)).mono ?_
              rintro e w10 ⟨a10, n10, c10, rfl, hn10, hN10⟩
              have hN10' := NewB.trans (str_below wr 5 (S soft)) hN10
              have HB : Hid (n10 = BD.length ∧ NewB w1 w10 (.slice a10 n10 c10) BD ∧ n10 ≤ 600) := shid (by
                rw [← HBD.out, HA.out.1, if_pos hs, sBody_snoc]
                refine ⟨by rw [List.length_append, ← HL9.out]; exact hn10, NewB.trans HN9.out.1 hN10', ?_⟩
                rw [hn10, sAttr_length]
                have e2 : ((32802, soft) : Nat × List UInt8).2.length = soft.length := rfl
                rw [e2]; omega)
              clear hN10 hN10' hn10 hB HL9 HN9 HA hcv hsz2 hnil x0 x1 x2 x3 x4 x5 x6 x7
              obtain ⟨x0, x1, x2, x3, x4, x5, x6, x7⟩ := DmIs.all (DmIs.newB HM.out HB.out.2.1)
              go_wp2_with fail
              have hnB := HB.out.2.2
              have h4B : n10 % 4 = 0 := by rw [HB.out.1, ← HBD.out]; exact sBody_four _
              refine (number_new (some ⟨w10.heap.size, 0, none⟩) 0 0 2 273 (by decide) (by decide) [] _ (by omega) ⟨rfl, .inl rfl⟩ (fun e => by cases e)).mono ?_
              rintro e w2 ⟨a2, c2, rfl, hN2⟩
              have hE : Below (w10.heap.size) w10 (World.alloc w10 (.cells #[] 5)) := (Below.refl _ _).alloc (Nat.le_refl _) _
              have HN2 : Hid (NewB w10 w2 (.slice a2 2 c2) (putB 2 273 true)) := shid (NewB.trans hE (by simpa using hN2))
              clear hN2 hE
              obtain ⟨hB2, _, _, hn2⟩ := HN2.out.at_ (putB_length _ _ _)
              go_wp2_with fail
              rw [show (n10 : Int) + 8 = ((n10 + 8 : Nat) : Int) by omega]
              refine (number_new a2 2 c2 2 (n10 + 8) (by omega) (by decide) _ _ (by omega) hB2 hn2).mono ?_
              rintro e w3 ⟨a3, c3, rfl, hN3⟩
              have HN3 : Hid (NewB w10 w3 (.slice a3 4 c3) (putB 2 273 true ++ putB 2 (n10 + 8) true)) := shid (NewB.trans HN2.out.1 hN3)
              have HNB : Hid (NewB w1 w3 (.slice a10 n10 c10) BD) := shid (HB.out.2.1.later HN3.out.1)
              clear hN3 hB2 hn2 x0 x1 x2 x3 x4 x5 x6 x7
              have HWw : Hid (Below w.heap.size w w3) := shid (HW1.out.trans (HNB.out.1.mono HW1.out.size))
              go_wp2_with fail
              refine wp_region_sched' (G := Below w3.heap.size) (by kernel_rfl) (fun w => Below.refl _ w) (fun a9 b c9 h k => Below.trans h k) (by kernel_rfl) [(0, true), (2, true), (3, true), (5, true), (1, false), (4, false), (6, false), (7, true)] rfl (by kernel_rfl) ?_
              intro KK hKK
              have hX : ∀ w', Below w3.heap.size w3.drew w' → w'.cell? ⟨w.heap.size, 1, none⟩ = some (.slice ia id.length ic) := fun w' hw' => by
                have hd := DmIs.newB HM.out HNB.out
                rw [hw'.cell (p := ⟨w.heap.size, 1, none⟩) hd.lt]
                exact (DmIs.all hd).2.1
              iterate 4 (refine sched_take rfl (by rfl) (v := ?_) ?_ ?_; rotate_left; (intro w' hw'; have q1 := hX w' hw'; clear hw'; go_simp; with_reducible rfl); go_simp)
              clear hX
              obtain ⟨hB3, _, _, hn3⟩ := HN3.out.at_ (show (putB 2 273 true ++ putB 2 (n10 + 8) true).length = 4 by rw [List.length_append, putB_length, putB_length])
              have hdr : Below w3.heap.size w3 w3.drew := (Below.refl _ _).drew
              refine sched_call (f := 29) (args := #[.slice a3 4 c3, .int .i64 4, .int .u64 554869826]) rfl (by rfl) (by go_simp) ?_
              refine (number_new a3 4 c3 4 554869826 (by decide) (by decide) _ w3.drew (by omega) (hB3.later hdr) hn3).mono ?_
              rintro e w4 ⟨a4, c4, rfl, hN4⟩
              refine ⟨_, rfl, hN4.1, ?_⟩
              go_simp
              have hl4 : (putB 2 273 true ++ putB 2 (n10 + 8) true ++ putB 4 554869826 true).length = 8 := by rw [List.length_append, List.length_append, putB_length, putB_length, putB_length]
              have hb4 : Below w.heap.size w w4 := HWw.out.trans ((hdr.trans hN4.1).mono HWw.out.size)
              obtain ⟨a5, c5, w5, hap5, hN5, hb5⟩ := hN4.many2 ia id.length ic id (HI.out.later hb4) hin (by rw [hl4, HID.out]; omega)
              rw [hl4] at hap5 hN5
              have HAP5 := shid hap5
              refine sched_append rfl (by rfl) rfl (by rfl) (by rfl) HAP5.out hb5 ?_
              go_simp
              have hl5 : (putB 2 273 true ++ putB 2 (n10 + 8) true ++ putB 4 554869826 true ++ id).length = 8 + id.length := by rw [List.length_append, hl4]
              have hBD5 := (HNB.out.later (hdr.trans hN5.1)).at_ HB.out.1.symm
              obtain ⟨a6, c6, w6, hap6, hN6, hb6⟩ := hN5.many2 a10 n10 c10 BD hBD5.1 hBD5.2.2.2 (by rw [hl5, HID.out]; omega)
              rw [hl5] at hap6 hN6
              have HAP6 := shid hap6
              refine sched_append rfl (by rfl) rfl (by rfl) (by rfl) HAP6.out hb6 ?_
              obtain ⟨N, hN⟩ : ∃ N, 8 + id.length + n10 = N := ⟨_, rfl⟩
              obtain ⟨O, hO⟩ : ∃ O, putB 2 273 true ++ putB 2 (n10 + 8) true ++ putB 4 554869826 true ++ id ++ BD = O := ⟨_, rfl⟩
              rw [hN, hO] at hN6
              rw [hN]
              have HO : Hid (SM.out ⟨3, id, host, port, soft, q, reason, unk⟩ = O ∧ O.length = N ∧ N = 20 + n10) := shid ⟨by rw [← hO, HB.out.1, ← HBD.out]; rfl, by rw [← hO, List.length_append, hl5, ← HB.out.1, hN], by have := HID.out; omega⟩
              have HN6 : Hid (NewB w w6 (.slice a6 N c6) O) := shid (NewB.trans (HWw.out.trans (hdr.mono HWw.out.size)) hN6)
              clear hap5 hap6 HAP5 HAP6 hN5 hN6 hb5 hb6 hBD5 hl4 hl5 hb4 hN4 hdr hB3 hn3 hN hO HN3 HN2 HNB HWw HB
              go_simp
              iterate 1 (refine sched_take rfl (by rfl) (v := ?_) ?_ ?_; rotate_left; (intro w' hw'; go_simp; with_reducible rfl); go_simp)
              refine sched_done hKK ?_
              clear hKK
              obtain ⟨hB6, hc6, hm6, hn6⟩ := HN6.out.at_ HO.out.2.1
              obtain ⟨X, hX⟩ : ∃ X, (crcOf O).toNat ^^^ 1398035790 = X := ⟨_, rfl⟩
              have hXb : X < 4294967296 := by rw [← hX]; exact xor_lt32 _ _ (crcOf O).isLt (by decide)
              have hxr : bits .xor .u32 ((crcOf O).toNat : Int) 1398035790 = (X : Int) := by rw [← hX]; exact xorU _ 1398035790 (crcOf O).isLt (by decide)
              have HXX := shid hX
              clear hX
              have hNs : N ≤ 700 := by have := HO.out.2.2; omega
              have hN4' : N % 4 = 0 := by have := HO.out.2.2; omega
              go_wp2_with fail
              refine (refCrc_any a6 N c6 O w6 hB6 (by unfold maxLen; omega)).mono ?_
              rintro e w7 ⟨rfl, rfl⟩
              go_wp2_with fail
              refine (number_new none 0 0 4 X (by omega) (by decide) [] _ (by omega) ⟨rfl, .inl rfl⟩ (fun _ => rfl)).mono ?_
              rintro e w8 ⟨a8, c8, rfl, hN8⟩
              have hN8' : NewB w7 w8 (.slice a8 4 c8) (putB 4 X true) := by simpa using hN8
              obtain ⟨hB8, _, _, hn8⟩ := hN8'.at_ (putB_length _ _ _)
              have hb8 := hN8'.1
              have hB68 := hB6.later hb8
              clear hN8 hN8' hB6
              go_wp2_with fail
              refine (attr_new a6 N c6 O 32808 (by decide) a8 4 c8 (putB 4 X true) w8 (by omega) hN4' hB68 hn6 hB8 hn8 (by omega)).mono ?_
              rintro e w9 ⟨a9, n9, c9, rfl, hn9, hN9⟩
              have hend : encS ⟨3, id, host, port, soft, q, reason, unk⟩ = O ++ sAttr (32808, putB 4 X true) := by unfold encS sFin; rw [HO.out.1, HXX.out]
              have HF : Hid (n9 = (encS ⟨3, id, host, port, soft, q, reason, unk⟩).length ∧ NewB w w9 (.slice a9 n9 c9) (encS ⟨3, id, host, port, soft, q, reason, unk⟩)) := shid ⟨by rw [hend, List.length_append, HO.out.2.1]; exact hn9, by rw [hend]; exact NewB.trans (HN6.out.1.trans (hb8.mono HN6.out.1.size)) hN9⟩
              clear hend hN9 hn9 hB68 hB8 hb8 hn8 HN6 HO HXX
              go_wp2_with fail
              go_ret
              exact ⟨a9, n9, _, rfl, HF.out.1, HF.out.2⟩
end Go.Proofs.Ytejbhjcopldekaa
