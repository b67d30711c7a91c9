/- FieldTells. For every two keys, without a condition. -/
import Derived.Test.YtgggdcliepgahaaDoorFieldShown
import Derived.Test.YtgggdcliepgahaaDoorRefFb
namespace Go.Proofs.YtgggdcliepgahaaDoor
open Go.RowKit
set_option linter.unusedVariables false
set_option maxHeartbeats 1000000 in
set_option maxRecDepth 100000 in
theorem ftext_any (l : List UInt8) (w : World) (hl : l.length = 32) : Calls Tryd.prog 12 #[.agg (l.map bv).toArray] w fun e w' => e = .returned (.string (S l)) ∧ Below w.heap.size w w' := by
  have hc := conv_bytes (w.alloc (.cells (l.map bv).toArray 23)) (some ⟨w.heap.size, 0, none⟩) 32 32 l ((Arr.new w 23 l).byt 32 hl)
  go_enter Tryd.func12, Tryd.ntmps12
  go_wp2
  go_ret
  exact ⟨rfl, (Below.refl _ _).alloc (Nat.le_refl _) _⟩
end Go.Proofs.YtgggdcliepgahaaDoor
namespace Go.Proofs.YtgggdcliepgahaaDoor.fieldTells
open Go.ChangeShapes Go.WideShapes Go.ChangeAt Go.RowKit
set_option linter.unusedVariables false

theorem lt33 {x : Nat} (h : x < P255) : x < 256 ^ 33 := Nat.lt_trans h (by decide)
theorem len33 {w : World} {a : Option Addr} {n cap x : Nat} (h : Dig w a n cap x) (hx : x < P255) : n ≤ 5000 := Nat.le_trans (h.len (lt33 hx)) (by decide)

set_option maxHeartbeats 8000000 in
set_option maxRecDepth 100000 in
theorem walk (l0 l1 : List UInt8) (w : World) (w0 : l0.length = 32) (w1 : l1.length = 32) (htab : FTab w) :
    Calls Tryd.prog 3 #[.agg (l0.map bv).toArray, .agg (l1.map bv).toArray] w fun e w' => e = .returned (.bool true) ∧ Below w.heap.size w w' := by
  have HTab : Hid (FTab w) := htab
  clear htab
  have hI : Hid (∀ l : List UInt8, l.length = 32 → (Tryd.prog.info? 23).map (·.size) = some (l.map bv).toArray.size) := fun l hl => info_size (n := 32) (by kernel_rfl) l hl
  go_enter Tryd.func3, Tryd.ntmps3
  go_wp2_with fail
  refine (fshown_any _).mono ?_
  rintro e V0 ⟨rfl, hb⟩
  obtain ⟨hk0, hk1, hbw⟩ := keys2 w l0 l1
  have HK0 : Hid (Arr V0 w.heap.size 23 l0) := hk0.later hb
  have HK1 : Hid (Arr V0 (w.heap.size + 1) 23 l1) := hk1.later hb
  have HW : Hid (Below w.heap.size w V0) := hbw.trans (hb.mono hbw.size)
  clear hb hbw hk0 hk1
  go_wp2_with (first | refine wpList_load_met (by rfl) 23 _ rfl w.heap.size rfl 23 _ (0, 0) _ HK0.out Tryd.underlying23 rfl (hI.out l0 w0) ?_ | refine wpList_load_met (by rfl) 23 _ rfl (w.heap.size + 1) rfl 23 _ (0, 0) _ HK1.out Tryd.underlying23 rfl (hI.out l1 w1) ?_ | fail)
  refine (ffrom_any l0 _ w0).mono ?_
  rintro e V1 ⟨c1, rfl, he, hb⟩
  obtain ⟨x, hn⟩ : ∃ n, leN l0 % 2 ^ 255 % P255 = n := ⟨_, rfl⟩
  rw [hn] at he
  have HEc1 : Hid (Elm c1 x) := he
  have HNx : Hid (leN l0 % 2 ^ 255 % P255 = x) := hn
  have hlenc1 := he.len
  have hst := elm_store V1 he
  have hC := Cel.new V1 c1
  obtain ⟨W1, hW⟩ : ∃ W, V1.alloc (.cells c1.toArray 28) = W := ⟨_, rfl⟩
  rw [hW] at hst hC
  have hbW : Below V0.heap.size V0 W1 := by rw [← hW]; exact hb.alloc hb.size _
  replace HK0 := hidup (HK0.out.later hbW)
  replace HK1 := hidup (HK1.out.later hbW)
  replace HW := hidup (HW.out.trans (hbW.mono HW.out.size))
  have HCc1 : Hid (Cel W1 V1.heap.size c1) := hC
  clear he hb hbW hC hW hn
  go_wp2_with (first | refine wpList_load_met (by rfl) 23 _ rfl w.heap.size rfl 23 _ (0, 0) _ HK0.out Tryd.underlying23 rfl (hI.out l0 w0) ?_ | refine wpList_load_met (by rfl) 23 _ rfl (w.heap.size + 1) rfl 23 _ (0, 0) _ HK1.out Tryd.underlying23 rfl (hI.out l1 w1) ?_ | refine wpList_load_met (by rfl) 28 _ rfl V1.heap.size rfl 28 _ (0, 0) _ HCc1.out Tryd.underlying28 rfl (elm_info HEc1.out) ?_ | fail)
  clear hst
  generalize V1.heap.size = g1 at *
  refine (ffrom_any l1 _ w1).mono ?_
  rintro e V2 ⟨c2, rfl, he, hb⟩
  obtain ⟨y, hn⟩ : ∃ n, leN l1 % 2 ^ 255 % P255 = n := ⟨_, rfl⟩
  rw [hn] at he
  have HEc2 : Hid (Elm c2 y) := he
  have HNy : Hid (leN l1 % 2 ^ 255 % P255 = y) := hn
  have hlenc2 := he.len
  have hst := elm_store V2 he
  have hC := Cel.new V2 c2
  obtain ⟨W2, hW⟩ : ∃ W, V2.alloc (.cells c2.toArray 28) = W := ⟨_, rfl⟩
  rw [hW] at hst hC
  have hbW : Below W1.heap.size W1 W2 := by rw [← hW]; exact hb.alloc hb.size _
  replace HK0 := hidup (HK0.out.later hbW)
  replace HK1 := hidup (HK1.out.later hbW)
  replace HCc1 := hidup (HCc1.out.later hbW)
  replace HW := hidup (HW.out.trans (hbW.mono HW.out.size))
  have HCc2 : Hid (Cel W2 V2.heap.size c2) := hC
  clear he hb hbW hC hW hn
  go_wp2_with (first | refine wpList_load_met (by rfl) 23 _ rfl w.heap.size rfl 23 _ (0, 0) _ HK0.out Tryd.underlying23 rfl (hI.out l0 w0) ?_ | refine wpList_load_met (by rfl) 23 _ rfl (w.heap.size + 1) rfl 23 _ (0, 0) _ HK1.out Tryd.underlying23 rfl (hI.out l1 w1) ?_ | refine wpList_load_met (by rfl) 28 _ rfl g1 rfl 28 _ (0, 0) _ HCc1.out Tryd.underlying28 rfl (elm_info HEc1.out) ?_ | refine wpList_load_met (by rfl) 28 _ rfl g2 rfl 28 _ (0, 0) _ HCc2.out Tryd.underlying28 rfl (elm_info HEc2.out) ?_ | fail)
  clear hst
  generalize V2.heap.size = g2 at *
  refine (refFfrom_any (some ⟨w.heap.size, 0, none⟩) 32 l0 W2 (HK0.out.byt 32 w0)).mono ?_
  rintro e V3 ⟨ap, np, qp, rfl, hb, hd⟩
  replace HK0 := hidup (HK0.out.later hb)
  replace HK1 := hidup (HK1.out.later hb)
  replace HCc1 := hidup (HCc1.out.later hb)
  replace HCc2 := hidup (HCc2.out.later hb)
  replace HW := hidup (HW.out.trans (hb.mono HW.out.size))
  have HDp : Hid (Dig V3 ap np qp x) := by
    have h := hd
    rw [HNx.out] at h
    exact h
  clear hb hd
  go_wp2_with (first | refine wpList_load_met (by rfl) 23 _ rfl w.heap.size rfl 23 _ (0, 0) _ HK0.out Tryd.underlying23 rfl (hI.out l0 w0) ?_ | refine wpList_load_met (by rfl) 23 _ rfl (w.heap.size + 1) rfl 23 _ (0, 0) _ HK1.out Tryd.underlying23 rfl (hI.out l1 w1) ?_ | refine wpList_load_met (by rfl) 28 _ rfl g1 rfl 28 _ (0, 0) _ HCc1.out Tryd.underlying28 rfl (elm_info HEc1.out) ?_ | refine wpList_load_met (by rfl) 28 _ rfl g2 rfl 28 _ (0, 0) _ HCc2.out Tryd.underlying28 rfl (elm_info HEc2.out) ?_ | fail)
  refine (refFfrom_any (some ⟨w.heap.size + 1, 0, none⟩) 32 l1 V3 (HK1.out.byt 32 w1)).mono ?_
  rintro e V4 ⟨aq, nq, qq, rfl, hb, hd⟩
  replace HK0 := hidup (HK0.out.later hb)
  replace HK1 := hidup (HK1.out.later hb)
  replace HCc1 := hidup (HCc1.out.later hb)
  replace HCc2 := hidup (HCc2.out.later hb)
  replace HDp := hidup (HDp.out.later hb)
  replace HW := hidup (HW.out.trans (hb.mono HW.out.size))
  have HDq : Hid (Dig V4 aq nq qq y) := by
    have h := hd
    rw [HNy.out] at h
    exact h
  clear hb hd
  have hxl := HEc1.out.lt
  have hyl := HEc2.out.lt
  go_wp2_with (first | refine wpList_load_met (by rfl) 23 _ rfl w.heap.size rfl 23 _ (0, 0) _ HK0.out Tryd.underlying23 rfl (hI.out l0 w0) ?_ | refine wpList_load_met (by rfl) 23 _ rfl (w.heap.size + 1) rfl 23 _ (0, 0) _ HK1.out Tryd.underlying23 rfl (hI.out l1 w1) ?_ | refine wpList_load_met (by rfl) 28 _ rfl g1 rfl 28 _ (0, 0) _ HCc1.out Tryd.underlying28 rfl (elm_info HEc1.out) ?_ | refine wpList_load_met (by rfl) 28 _ rfl g2 rfl 28 _ (0, 0) _ HCc2.out Tryd.underlying28 rfl (elm_info HEc2.out) ?_ | fail)
  refine (fbytes_any c1 x V4 HEc1.out).mono ?_
  rintro e V5 ⟨rfl, hb⟩
  replace HK0 := hidup (HK0.out.later hb)
  replace HK1 := hidup (HK1.out.later hb)
  replace HCc1 := hidup (HCc1.out.later hb)
  replace HCc2 := hidup (HCc2.out.later hb)
  replace HDp := hidup (HDp.out.later hb)
  replace HDq := hidup (HDq.out.later hb)
  replace HW := hidup (HW.out.trans (hb.mono HW.out.size))
  clear hb
  go_wp2_with (first | refine wpList_load_met (by rfl) 23 _ rfl w.heap.size rfl 23 _ (0, 0) _ HK0.out Tryd.underlying23 rfl (hI.out l0 w0) ?_ | refine wpList_load_met (by rfl) 23 _ rfl (w.heap.size + 1) rfl 23 _ (0, 0) _ HK1.out Tryd.underlying23 rfl (hI.out l1 w1) ?_ | refine wpList_load_met (by rfl) 28 _ rfl g1 rfl 28 _ (0, 0) _ HCc1.out Tryd.underlying28 rfl (elm_info HEc1.out) ?_ | refine wpList_load_met (by rfl) 28 _ rfl g2 rfl 28 _ (0, 0) _ HCc2.out Tryd.underlying28 rfl (elm_info HEc2.out) ?_ | fail)
  refine (ftext_any (leB 32 x) V5 (leB_length _ _)).mono ?_
  rintro e V6 ⟨rfl, hb⟩
  replace HK0 := hidup (HK0.out.later hb)
  replace HK1 := hidup (HK1.out.later hb)
  replace HCc1 := hidup (HCc1.out.later hb)
  replace HCc2 := hidup (HCc2.out.later hb)
  replace HDp := hidup (HDp.out.later hb)
  replace HDq := hidup (HDq.out.later hb)
  replace HW := hidup (HW.out.trans (hb.mono HW.out.size))
  clear hb
  go_wp2_with (first | refine wpList_load_met (by rfl) 23 _ rfl w.heap.size rfl 23 _ (0, 0) _ HK0.out Tryd.underlying23 rfl (hI.out l0 w0) ?_ | refine wpList_load_met (by rfl) 23 _ rfl (w.heap.size + 1) rfl 23 _ (0, 0) _ HK1.out Tryd.underlying23 rfl (hI.out l1 w1) ?_ | refine wpList_load_met (by rfl) 28 _ rfl g1 rfl 28 _ (0, 0) _ HCc1.out Tryd.underlying28 rfl (elm_info HEc1.out) ?_ | refine wpList_load_met (by rfl) 28 _ rfl g2 rfl 28 _ (0, 0) _ HCc2.out Tryd.underlying28 rfl (elm_info HEc2.out) ?_ | fail)
  refine (refFbytes_any ap np qp x V6 HDp.out (len33 HDp.out hxl)).mono ?_
  rintro e V7 ⟨gb, rfl, _, hb, hby⟩
  have hcv := conv_bytes V7 (some ⟨gb, 0, none⟩) 32 32 (leB 32 x) hby
  replace HK0 := hidup (HK0.out.later hb)
  replace HK1 := hidup (HK1.out.later hb)
  replace HCc1 := hidup (HCc1.out.later hb)
  replace HCc2 := hidup (HCc2.out.later hb)
  replace HDp := hidup (HDp.out.later hb)
  replace HDq := hidup (HDq.out.later hb)
  replace HW := hidup (HW.out.trans (hb.mono HW.out.size))
  clear hb hby
  go_wp2_with (first | refine wpList_load_met (by rfl) 23 _ rfl w.heap.size rfl 23 _ (0, 0) _ HK0.out Tryd.underlying23 rfl (hI.out l0 w0) ?_ | refine wpList_load_met (by rfl) 23 _ rfl (w.heap.size + 1) rfl 23 _ (0, 0) _ HK1.out Tryd.underlying23 rfl (hI.out l1 w1) ?_ | refine wpList_load_met (by rfl) 28 _ rfl g1 rfl 28 _ (0, 0) _ HCc1.out Tryd.underlying28 rfl (elm_info HEc1.out) ?_ | refine wpList_load_met (by rfl) 28 _ rfl g2 rfl 28 _ (0, 0) _ HCc2.out Tryd.underlying28 rfl (elm_info HEc2.out) ?_ | fail)
  (try clear hcv)
  refine (fadd_any c1 c2 x y V7 HEc1.out HEc2.out).mono ?_
  rintro e V8 ⟨d1, rfl, he, hb⟩
  obtain ⟨s, hn⟩ : ∃ n, (x + y) % P255 = n := ⟨_, rfl⟩
  rw [hn] at he
  have HEd1 : Hid (Elm d1 s) := he
  have HNs : Hid ((x + y) % P255 = s) := hn
  have hsl := he.lt
  replace HK0 := hidup (HK0.out.later hb)
  replace HK1 := hidup (HK1.out.later hb)
  replace HCc1 := hidup (HCc1.out.later hb)
  replace HCc2 := hidup (HCc2.out.later hb)
  replace HDp := hidup (HDp.out.later hb)
  replace HDq := hidup (HDq.out.later hb)
  replace HW := hidup (HW.out.trans (hb.mono HW.out.size))
  clear hb he hn
  go_wp2_with (first | refine wpList_load_met (by rfl) 23 _ rfl w.heap.size rfl 23 _ (0, 0) _ HK0.out Tryd.underlying23 rfl (hI.out l0 w0) ?_ | refine wpList_load_met (by rfl) 23 _ rfl (w.heap.size + 1) rfl 23 _ (0, 0) _ HK1.out Tryd.underlying23 rfl (hI.out l1 w1) ?_ | refine wpList_load_met (by rfl) 28 _ rfl g1 rfl 28 _ (0, 0) _ HCc1.out Tryd.underlying28 rfl (elm_info HEc1.out) ?_ | refine wpList_load_met (by rfl) 28 _ rfl g2 rfl 28 _ (0, 0) _ HCc2.out Tryd.underlying28 rfl (elm_info HEc2.out) ?_ | fail)
  refine (fbytes_any d1 s V8 HEd1.out).mono ?_
  rintro e V9 ⟨rfl, hb⟩
  replace HK0 := hidup (HK0.out.later hb)
  replace HK1 := hidup (HK1.out.later hb)
  replace HCc1 := hidup (HCc1.out.later hb)
  replace HCc2 := hidup (HCc2.out.later hb)
  replace HDp := hidup (HDp.out.later hb)
  replace HDq := hidup (HDq.out.later hb)
  replace HW := hidup (HW.out.trans (hb.mono HW.out.size))
  clear hb
  go_wp2_with (first | refine wpList_load_met (by rfl) 23 _ rfl w.heap.size rfl 23 _ (0, 0) _ HK0.out Tryd.underlying23 rfl (hI.out l0 w0) ?_ | refine wpList_load_met (by rfl) 23 _ rfl (w.heap.size + 1) rfl 23 _ (0, 0) _ HK1.out Tryd.underlying23 rfl (hI.out l1 w1) ?_ | refine wpList_load_met (by rfl) 28 _ rfl g1 rfl 28 _ (0, 0) _ HCc1.out Tryd.underlying28 rfl (elm_info HEc1.out) ?_ | refine wpList_load_met (by rfl) 28 _ rfl g2 rfl 28 _ (0, 0) _ HCc2.out Tryd.underlying28 rfl (elm_info HEc2.out) ?_ | fail)
  refine (ftext_any (leB 32 s) V9 (leB_length _ _)).mono ?_
  rintro e V10 ⟨rfl, hb⟩
  replace HK0 := hidup (HK0.out.later hb)
  replace HK1 := hidup (HK1.out.later hb)
  replace HCc1 := hidup (HCc1.out.later hb)
  replace HCc2 := hidup (HCc2.out.later hb)
  replace HDp := hidup (HDp.out.later hb)
  replace HDq := hidup (HDq.out.later hb)
  replace HW := hidup (HW.out.trans (hb.mono HW.out.size))
  clear hb
  go_wp2_with (first | refine wpList_load_met (by rfl) 23 _ rfl w.heap.size rfl 23 _ (0, 0) _ HK0.out Tryd.underlying23 rfl (hI.out l0 w0) ?_ | refine wpList_load_met (by rfl) 23 _ rfl (w.heap.size + 1) rfl 23 _ (0, 0) _ HK1.out Tryd.underlying23 rfl (hI.out l1 w1) ?_ | refine wpList_load_met (by rfl) 28 _ rfl g1 rfl 28 _ (0, 0) _ HCc1.out Tryd.underlying28 rfl (elm_info HEc1.out) ?_ | refine wpList_load_met (by rfl) 28 _ rfl g2 rfl 28 _ (0, 0) _ HCc2.out Tryd.underlying28 rfl (elm_info HEc2.out) ?_ | fail)
  refine (refFadd_any ap np qp x aq nq qq y V10 HDp.out HDq.out (lt33 hxl) (lt33 hyl)).mono ?_
  rintro e V11 ⟨ar, nr, qr, rfl, hb, hd⟩
  replace HK0 := hidup (HK0.out.later hb)
  replace HK1 := hidup (HK1.out.later hb)
  replace HCc1 := hidup (HCc1.out.later hb)
  replace HCc2 := hidup (HCc2.out.later hb)
  replace HDp := hidup (HDp.out.later hb)
  replace HDq := hidup (HDq.out.later hb)
  replace HW := hidup (HW.out.trans (hb.mono HW.out.size))
  have HDr : Hid (Dig V11 ar nr qr s) := by
    have h := hd
    rw [HNs.out] at h
    exact h
  clear hb hd
  go_wp2_with (first | refine wpList_load_met (by rfl) 23 _ rfl w.heap.size rfl 23 _ (0, 0) _ HK0.out Tryd.underlying23 rfl (hI.out l0 w0) ?_ | refine wpList_load_met (by rfl) 23 _ rfl (w.heap.size + 1) rfl 23 _ (0, 0) _ HK1.out Tryd.underlying23 rfl (hI.out l1 w1) ?_ | refine wpList_load_met (by rfl) 28 _ rfl g1 rfl 28 _ (0, 0) _ HCc1.out Tryd.underlying28 rfl (elm_info HEc1.out) ?_ | refine wpList_load_met (by rfl) 28 _ rfl g2 rfl 28 _ (0, 0) _ HCc2.out Tryd.underlying28 rfl (elm_info HEc2.out) ?_ | fail)
  refine (refFbytes_any ar nr qr s V11 HDr.out (len33 HDr.out hsl)).mono ?_
  rintro e V12 ⟨gb, rfl, _, hb, hby⟩
  have hcv := conv_bytes V12 (some ⟨gb, 0, none⟩) 32 32 (leB 32 s) hby
  replace HK0 := hidup (HK0.out.later hb)
  replace HK1 := hidup (HK1.out.later hb)
  replace HCc1 := hidup (HCc1.out.later hb)
  replace HCc2 := hidup (HCc2.out.later hb)
  replace HDp := hidup (HDp.out.later hb)
  replace HDq := hidup (HDq.out.later hb)
  replace HDr := hidup (HDr.out.later hb)
  replace HW := hidup (HW.out.trans (hb.mono HW.out.size))
  clear hb hby
  go_wp2_with (first | refine wpList_load_met (by rfl) 23 _ rfl w.heap.size rfl 23 _ (0, 0) _ HK0.out Tryd.underlying23 rfl (hI.out l0 w0) ?_ | refine wpList_load_met (by rfl) 23 _ rfl (w.heap.size + 1) rfl 23 _ (0, 0) _ HK1.out Tryd.underlying23 rfl (hI.out l1 w1) ?_ | refine wpList_load_met (by rfl) 28 _ rfl g1 rfl 28 _ (0, 0) _ HCc1.out Tryd.underlying28 rfl (elm_info HEc1.out) ?_ | refine wpList_load_met (by rfl) 28 _ rfl g2 rfl 28 _ (0, 0) _ HCc2.out Tryd.underlying28 rfl (elm_info HEc2.out) ?_ | fail)
  (try clear hcv)
  refine (fsub_any c1 c2 x y V12 HEc1.out HEc2.out (HTab.out.later HW.out)).mono ?_
  rintro e V13 ⟨d2, rfl, he, hb⟩
  obtain ⟨t, hn⟩ : ∃ n, (x + (P255 - y)) % P255 = n := ⟨_, rfl⟩
  rw [hn] at he
  have HEd2 : Hid (Elm d2 t) := he
  have HNt : Hid ((x + (P255 - y)) % P255 = t) := hn
  have htl := he.lt
  replace HK0 := hidup (HK0.out.later hb)
  replace HK1 := hidup (HK1.out.later hb)
  replace HCc1 := hidup (HCc1.out.later hb)
  replace HCc2 := hidup (HCc2.out.later hb)
  replace HDp := hidup (HDp.out.later hb)
  replace HDq := hidup (HDq.out.later hb)
  replace HDr := hidup (HDr.out.later hb)
  replace HW := hidup (HW.out.trans (hb.mono HW.out.size))
  clear hb he hn
  go_wp2_with (first | refine wpList_load_met (by rfl) 23 _ rfl w.heap.size rfl 23 _ (0, 0) _ HK0.out Tryd.underlying23 rfl (hI.out l0 w0) ?_ | refine wpList_load_met (by rfl) 23 _ rfl (w.heap.size + 1) rfl 23 _ (0, 0) _ HK1.out Tryd.underlying23 rfl (hI.out l1 w1) ?_ | refine wpList_load_met (by rfl) 28 _ rfl g1 rfl 28 _ (0, 0) _ HCc1.out Tryd.underlying28 rfl (elm_info HEc1.out) ?_ | refine wpList_load_met (by rfl) 28 _ rfl g2 rfl 28 _ (0, 0) _ HCc2.out Tryd.underlying28 rfl (elm_info HEc2.out) ?_ | fail)
  refine (fbytes_any d2 t V13 HEd2.out).mono ?_
  rintro e V14 ⟨rfl, hb⟩
  replace HK0 := hidup (HK0.out.later hb)
  replace HK1 := hidup (HK1.out.later hb)
  replace HCc1 := hidup (HCc1.out.later hb)
  replace HCc2 := hidup (HCc2.out.later hb)
  replace HDp := hidup (HDp.out.later hb)
  replace HDq := hidup (HDq.out.later hb)
  replace HDr := hidup (HDr.out.later hb)
  replace HW := hidup (HW.out.trans (hb.mono HW.out.size))
  clear hb
  go_wp2_with (first | refine wpList_load_met (by rfl) 23 _ rfl w.heap.size rfl 23 _ (0, 0) _ HK0.out Tryd.underlying23 rfl (hI.out l0 w0) ?_ | refine wpList_load_met (by rfl) 23 _ rfl (w.heap.size + 1) rfl 23 _ (0, 0) _ HK1.out Tryd.underlying23 rfl (hI.out l1 w1) ?_ | refine wpList_load_met (by rfl) 28 _ rfl g1 rfl 28 _ (0, 0) _ HCc1.out Tryd.underlying28 rfl (elm_info HEc1.out) ?_ | refine wpList_load_met (by rfl) 28 _ rfl g2 rfl 28 _ (0, 0) _ HCc2.out Tryd.underlying28 rfl (elm_info HEc2.out) ?_ | fail)
  refine (ftext_any (leB 32 t) V14 (leB_length _ _)).mono ?_
  rintro e V15 ⟨rfl, hb⟩
  replace HK0 := hidup (HK0.out.later hb)
  replace HK1 := hidup (HK1.out.later hb)
  replace HCc1 := hidup (HCc1.out.later hb)
  replace HCc2 := hidup (HCc2.out.later hb)
  replace HDp := hidup (HDp.out.later hb)
  replace HDq := hidup (HDq.out.later hb)
  replace HDr := hidup (HDr.out.later hb)
  replace HW := hidup (HW.out.trans (hb.mono HW.out.size))
  clear hb
  go_wp2_with (first | refine wpList_load_met (by rfl) 23 _ rfl w.heap.size rfl 23 _ (0, 0) _ HK0.out Tryd.underlying23 rfl (hI.out l0 w0) ?_ | refine wpList_load_met (by rfl) 23 _ rfl (w.heap.size + 1) rfl 23 _ (0, 0) _ HK1.out Tryd.underlying23 rfl (hI.out l1 w1) ?_ | refine wpList_load_met (by rfl) 28 _ rfl g1 rfl 28 _ (0, 0) _ HCc1.out Tryd.underlying28 rfl (elm_info HEc1.out) ?_ | refine wpList_load_met (by rfl) 28 _ rfl g2 rfl 28 _ (0, 0) _ HCc2.out Tryd.underlying28 rfl (elm_info HEc2.out) ?_ | fail)
  refine (refFneg_any aq nq qq y V15 HDq.out (Nat.le_of_lt hyl)).mono ?_
  rintro e V16 ⟨am, nm, qm, rfl, hb, hd⟩
  replace HK0 := hidup (HK0.out.later hb)
  replace HK1 := hidup (HK1.out.later hb)
  replace HCc1 := hidup (HCc1.out.later hb)
  replace HCc2 := hidup (HCc2.out.later hb)
  replace HDp := hidup (HDp.out.later hb)
  replace HDq := hidup (HDq.out.later hb)
  replace HDr := hidup (HDr.out.later hb)
  replace HW := hidup (HW.out.trans (hb.mono HW.out.size))
  have HDm : Hid (Dig V16 am nm qm ((P255 - y) % P255)) := by
    have h := hd
    skip
    exact h
  clear hb hd
  go_wp2_with (first | refine wpList_load_met (by rfl) 23 _ rfl w.heap.size rfl 23 _ (0, 0) _ HK0.out Tryd.underlying23 rfl (hI.out l0 w0) ?_ | refine wpList_load_met (by rfl) 23 _ rfl (w.heap.size + 1) rfl 23 _ (0, 0) _ HK1.out Tryd.underlying23 rfl (hI.out l1 w1) ?_ | refine wpList_load_met (by rfl) 28 _ rfl g1 rfl 28 _ (0, 0) _ HCc1.out Tryd.underlying28 rfl (elm_info HEc1.out) ?_ | refine wpList_load_met (by rfl) 28 _ rfl g2 rfl 28 _ (0, 0) _ HCc2.out Tryd.underlying28 rfl (elm_info HEc2.out) ?_ | fail)
  refine (refFadd_any ap np qp x am nm qm ((P255 - y) % P255) V16 HDp.out HDm.out (lt33 hxl) (mod_small33 _)).mono ?_
  rintro e V17 ⟨au, nu, qu, rfl, hb, hd⟩
  replace HK0 := hidup (HK0.out.later hb)
  replace HK1 := hidup (HK1.out.later hb)
  replace HCc1 := hidup (HCc1.out.later hb)
  replace HCc2 := hidup (HCc2.out.later hb)
  replace HDp := hidup (HDp.out.later hb)
  replace HDq := hidup (HDq.out.later hb)
  replace HDr := hidup (HDr.out.later hb)
  replace HDm := hidup (HDm.out.later hb)
  replace HW := hidup (HW.out.trans (hb.mono HW.out.size))
  have HDu : Hid (Dig V17 au nu qu t) := by
    have h := hd
    rw [Nat.add_mod_mod, HNt.out] at h
    exact h
  clear hb hd
  go_wp2_with (first | refine wpList_load_met (by rfl) 23 _ rfl w.heap.size rfl 23 _ (0, 0) _ HK0.out Tryd.underlying23 rfl (hI.out l0 w0) ?_ | refine wpList_load_met (by rfl) 23 _ rfl (w.heap.size + 1) rfl 23 _ (0, 0) _ HK1.out Tryd.underlying23 rfl (hI.out l1 w1) ?_ | refine wpList_load_met (by rfl) 28 _ rfl g1 rfl 28 _ (0, 0) _ HCc1.out Tryd.underlying28 rfl (elm_info HEc1.out) ?_ | refine wpList_load_met (by rfl) 28 _ rfl g2 rfl 28 _ (0, 0) _ HCc2.out Tryd.underlying28 rfl (elm_info HEc2.out) ?_ | fail)
  refine (refFbytes_any au nu qu t V17 HDu.out (len33 HDu.out htl)).mono ?_
  rintro e V18 ⟨gb, rfl, _, hb, hby⟩
  have hcv := conv_bytes V18 (some ⟨gb, 0, none⟩) 32 32 (leB 32 t) hby
  replace HK0 := hidup (HK0.out.later hb)
  replace HK1 := hidup (HK1.out.later hb)
  replace HCc1 := hidup (HCc1.out.later hb)
  replace HCc2 := hidup (HCc2.out.later hb)
  replace HDp := hidup (HDp.out.later hb)
  replace HDq := hidup (HDq.out.later hb)
  replace HDr := hidup (HDr.out.later hb)
  replace HDm := hidup (HDm.out.later hb)
  replace HDu := hidup (HDu.out.later hb)
  replace HW := hidup (HW.out.trans (hb.mono HW.out.size))
  clear hb hby
  go_wp2_with (first | refine wpList_load_met (by rfl) 23 _ rfl w.heap.size rfl 23 _ (0, 0) _ HK0.out Tryd.underlying23 rfl (hI.out l0 w0) ?_ | refine wpList_load_met (by rfl) 23 _ rfl (w.heap.size + 1) rfl 23 _ (0, 0) _ HK1.out Tryd.underlying23 rfl (hI.out l1 w1) ?_ | refine wpList_load_met (by rfl) 28 _ rfl g1 rfl 28 _ (0, 0) _ HCc1.out Tryd.underlying28 rfl (elm_info HEc1.out) ?_ | refine wpList_load_met (by rfl) 28 _ rfl g2 rfl 28 _ (0, 0) _ HCc2.out Tryd.underlying28 rfl (elm_info HEc2.out) ?_ | fail)
  (try clear hcv)
  refine (fmul_any c1 c2 x y V18 HEc1.out HEc2.out).mono ?_
  rintro e V19 ⟨d3, rfl, he, hb⟩
  obtain ⟨v, hn⟩ : ∃ n, x * y % P255 = n := ⟨_, rfl⟩
  rw [hn] at he
  have HEd3 : Hid (Elm d3 v) := he
  have HNv : Hid (x * y % P255 = v) := hn
  have hvl := he.lt
  replace HK0 := hidup (HK0.out.later hb)
  replace HK1 := hidup (HK1.out.later hb)
  replace HCc1 := hidup (HCc1.out.later hb)
  replace HCc2 := hidup (HCc2.out.later hb)
  replace HDp := hidup (HDp.out.later hb)
  replace HDq := hidup (HDq.out.later hb)
  replace HDr := hidup (HDr.out.later hb)
  replace HDm := hidup (HDm.out.later hb)
  replace HDu := hidup (HDu.out.later hb)
  replace HW := hidup (HW.out.trans (hb.mono HW.out.size))
  clear hb he hn
  go_wp2_with (first | refine wpList_load_met (by rfl) 23 _ rfl w.heap.size rfl 23 _ (0, 0) _ HK0.out Tryd.underlying23 rfl (hI.out l0 w0) ?_ | refine wpList_load_met (by rfl) 23 _ rfl (w.heap.size + 1) rfl 23 _ (0, 0) _ HK1.out Tryd.underlying23 rfl (hI.out l1 w1) ?_ | refine wpList_load_met (by rfl) 28 _ rfl g1 rfl 28 _ (0, 0) _ HCc1.out Tryd.underlying28 rfl (elm_info HEc1.out) ?_ | refine wpList_load_met (by rfl) 28 _ rfl g2 rfl 28 _ (0, 0) _ HCc2.out Tryd.underlying28 rfl (elm_info HEc2.out) ?_ | fail)
  refine (fbytes_any d3 v V19 HEd3.out).mono ?_
  rintro e V20 ⟨rfl, hb⟩
  replace HK0 := hidup (HK0.out.later hb)
  replace HK1 := hidup (HK1.out.later hb)
  replace HCc1 := hidup (HCc1.out.later hb)
  replace HCc2 := hidup (HCc2.out.later hb)
  replace HDp := hidup (HDp.out.later hb)
  replace HDq := hidup (HDq.out.later hb)
  replace HDr := hidup (HDr.out.later hb)
  replace HDm := hidup (HDm.out.later hb)
  replace HDu := hidup (HDu.out.later hb)
  replace HW := hidup (HW.out.trans (hb.mono HW.out.size))
  clear hb
  go_wp2_with (first | refine wpList_load_met (by rfl) 23 _ rfl w.heap.size rfl 23 _ (0, 0) _ HK0.out Tryd.underlying23 rfl (hI.out l0 w0) ?_ | refine wpList_load_met (by rfl) 23 _ rfl (w.heap.size + 1) rfl 23 _ (0, 0) _ HK1.out Tryd.underlying23 rfl (hI.out l1 w1) ?_ | refine wpList_load_met (by rfl) 28 _ rfl g1 rfl 28 _ (0, 0) _ HCc1.out Tryd.underlying28 rfl (elm_info HEc1.out) ?_ | refine wpList_load_met (by rfl) 28 _ rfl g2 rfl 28 _ (0, 0) _ HCc2.out Tryd.underlying28 rfl (elm_info HEc2.out) ?_ | fail)
  refine (ftext_any (leB 32 v) V20 (leB_length _ _)).mono ?_
  rintro e V21 ⟨rfl, hb⟩
  replace HK0 := hidup (HK0.out.later hb)
  replace HK1 := hidup (HK1.out.later hb)
  replace HCc1 := hidup (HCc1.out.later hb)
  replace HCc2 := hidup (HCc2.out.later hb)
  replace HDp := hidup (HDp.out.later hb)
  replace HDq := hidup (HDq.out.later hb)
  replace HDr := hidup (HDr.out.later hb)
  replace HDm := hidup (HDm.out.later hb)
  replace HDu := hidup (HDu.out.later hb)
  replace HW := hidup (HW.out.trans (hb.mono HW.out.size))
  clear hb
  go_wp2_with (first | refine wpList_load_met (by rfl) 23 _ rfl w.heap.size rfl 23 _ (0, 0) _ HK0.out Tryd.underlying23 rfl (hI.out l0 w0) ?_ | refine wpList_load_met (by rfl) 23 _ rfl (w.heap.size + 1) rfl 23 _ (0, 0) _ HK1.out Tryd.underlying23 rfl (hI.out l1 w1) ?_ | refine wpList_load_met (by rfl) 28 _ rfl g1 rfl 28 _ (0, 0) _ HCc1.out Tryd.underlying28 rfl (elm_info HEc1.out) ?_ | refine wpList_load_met (by rfl) 28 _ rfl g2 rfl 28 _ (0, 0) _ HCc2.out Tryd.underlying28 rfl (elm_info HEc2.out) ?_ | fail)
  refine (refFmul_any ap np qp x aq nq qq y V21 HDp.out HDq.out (lt33 hxl) (lt33 hyl)).mono ?_
  rintro e V22 ⟨az, nz, qz, rfl, hb, hd⟩
  replace HK0 := hidup (HK0.out.later hb)
  replace HK1 := hidup (HK1.out.later hb)
  replace HCc1 := hidup (HCc1.out.later hb)
  replace HCc2 := hidup (HCc2.out.later hb)
  replace HDp := hidup (HDp.out.later hb)
  replace HDq := hidup (HDq.out.later hb)
  replace HDr := hidup (HDr.out.later hb)
  replace HDm := hidup (HDm.out.later hb)
  replace HDu := hidup (HDu.out.later hb)
  replace HW := hidup (HW.out.trans (hb.mono HW.out.size))
  have HDz : Hid (Dig V22 az nz qz v) := by
    have h := hd
    rw [HNv.out] at h
    exact h
  clear hb hd
  go_wp2_with (first | refine wpList_load_met (by rfl) 23 _ rfl w.heap.size rfl 23 _ (0, 0) _ HK0.out Tryd.underlying23 rfl (hI.out l0 w0) ?_ | refine wpList_load_met (by rfl) 23 _ rfl (w.heap.size + 1) rfl 23 _ (0, 0) _ HK1.out Tryd.underlying23 rfl (hI.out l1 w1) ?_ | refine wpList_load_met (by rfl) 28 _ rfl g1 rfl 28 _ (0, 0) _ HCc1.out Tryd.underlying28 rfl (elm_info HEc1.out) ?_ | refine wpList_load_met (by rfl) 28 _ rfl g2 rfl 28 _ (0, 0) _ HCc2.out Tryd.underlying28 rfl (elm_info HEc2.out) ?_ | fail)
  refine (refFbytes_any az nz qz v V22 HDz.out (len33 HDz.out hvl)).mono ?_
  rintro e V23 ⟨gb, rfl, _, hb, hby⟩
  have hcv := conv_bytes V23 (some ⟨gb, 0, none⟩) 32 32 (leB 32 v) hby
  replace HK0 := hidup (HK0.out.later hb)
  replace HK1 := hidup (HK1.out.later hb)
  replace HCc1 := hidup (HCc1.out.later hb)
  replace HCc2 := hidup (HCc2.out.later hb)
  replace HDp := hidup (HDp.out.later hb)
  replace HDq := hidup (HDq.out.later hb)
  replace HDr := hidup (HDr.out.later hb)
  replace HDm := hidup (HDm.out.later hb)
  replace HDu := hidup (HDu.out.later hb)
  replace HDz := hidup (HDz.out.later hb)
  replace HW := hidup (HW.out.trans (hb.mono HW.out.size))
  clear hb hby
  go_wp2
  go_ret
  exact ⟨rfl, HW.out⟩
end Go.Proofs.YtgggdcliepgahaaDoor.fieldTells
