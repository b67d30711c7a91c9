/- AeadSeals: what is sealed is what the document says, and is opened. For every key, nonce and two rows of bytes, without a condition. -/
import Derived.Test.YtcnihgjibiidpaaAeadShown
namespace Go.Proofs.Ytcnihgjibiidpaa.aeadSeals
open Go.ChangeShapes Go.WideShapes Go.ChangeAt Go.RowKit
set_option linter.unusedVariables false

set_option maxHeartbeats 4000000 in
set_option maxRecDepth 100000 in
theorem walk (l0 : List UInt8) (l1 : List UInt8) (a2 : Option Addr) (len2 cap2 : Nat) (z2 : List Int) (a3 : Option Addr) (len3 cap3 : Nat) (z3 : List Int) (w : World) (w0 : l0.length = 32) (w1 : l1.length = 12) (w2 : IsRow .u8 w a2 len2 cap2 z2) (w3 : IsRow .u8 w a3 len3 cap3 z3) :
    Calls Try.prog 9 #[.agg (l0.map bv).toArray, .agg (l1.map bv).toArray, .slice a2 len2 cap2, .slice a3 len3 cap3] w fun e w' => e = .returned (.bool true) ∧ Below w.heap.size w w' := by
  have hnil2 := row_nil w2
  obtain ⟨ad, la, hnE20, hn1a, hn2a, hnca, hncma, hBma⟩ := cut_row w2 200
  have hnEa : (if (200 : Int) < (len2 : Int) then (200 : Int) else (len2 : Int)) = (la : Int) := hnE20
  have hlma := hBma.1
  have HB0a : Hid (Byt w a2 la ad) := hBma
  clear hnE20 w2 hBma
  have hnil3 := row_nil w3
  obtain ⟨m, n, hnE30, hn1b, hn2b, hncb, hncmb, hBmb⟩ := cut_row w3 200
  have hnEb : (if (200 : Int) < (len3 : Int) then (200 : Int) else (len3 : Int)) = (n : Int) := hnE30
  have hlmb := hBmb.1
  have HB0b : Hid (Byt w a3 n m) := hBmb
  clear hnE30 w3 hBmb
  have IK : (Try.prog.info? 23).map (·.size) = some 32 := by kernel_rfl
  have hIK : Hid ((Try.prog.info? 23).map (·.size) = some (l0.map bv).toArray.size) := info_size IK l0 w0
  have II : (Try.prog.info? 40).map (·.size) = some 12 := by kernel_rfl
  have hII : Hid ((Try.prog.info? 40).map (·.size) = some (l1.map bv).toArray.size) := info_size II l1 w1
  clear IK II
  go_enter Try.func9, Try.ntmps9
  go_wp2_with fail
  refine (aeadShown_any _).mono ?_
  rintro e w4 ⟨rfl, hb4⟩
  have hbel0 : Below w.heap.size w ((w.alloc (.cells (l0.map bv).toArray 23)).alloc (.cells (l1.map bv).toArray 40)) := ((Below.refl _ _).alloc (Nat.le_refl _) _).alloc (by simp) _
  have HK4 : Hid (Arr w4 w.heap.size 23 l0) := ((Arr.new w _ l0).later ((Below.refl _ _).alloc (Nat.le_refl _) _)).later hb4
  have HI4 : Hid (Arr w4 (w.heap.size + 1) 40 l1) := by
    have := Arr.new (w.alloc (.cells (l0.map bv).toArray 23)) 40 l1
    rw [World.size_alloc] at this
    exact this.later hb4
  have HW4 : Hid (Below w.heap.size w w4) := hbel0.trans (hb4.mono hbel0.size)
  clear hb4 hbel0
  have hS0 := conv_bytes w4 a2 la cap2 ad (HB0a.out.later HW4.out)
  have hS1 := conv_bytes w4 a3 n cap3 m (HB0b.out.later HW4.out)
  have hz1 : (S ad).size = la := hlma
  have hz2 : (S m).size = n := hlmb
  have hz3 : (la : Int) + (n : Int) ≤ 400 := by omega
  have hz4 : ¬ 9223372036854775807 < la + n := by omega
  go_wp2_with (first | refine wpList_load_row rfl 23 _ rfl w.heap.size rfl 23 _ (0, 0) _ HK4.out Try.underlying23 rfl hIK.out ?_ | refine wpList_load_row rfl 40 _ rfl (w.heap.size + 1) rfl 40 _ (0, 0) _ HI4.out Try.underlying40 rfl hII.out ?_)
  refine (seal_any l0 l1 a2 la cap2 ad a3 n cap3 m _ w0 w1 (HB0a.out.later HW4.out) hnil2 (by omega) (by omega) hncma (HB0b.out.later HW4.out) hnil3 (by omega) (by omega) hncmb).mono ?_
  rintro e w5 ⟨v5, rfl, hb5, own5⟩
  obtain ⟨a5, c5, rfl, hB5, hc5, hm5, hn5⟩ := own_parts own5
  have hsl := sealB_length l0 l1 ad m
  obtain ⟨X, hX⟩ : ∃ X, sealB l0 l1 ad m = X := ⟨_, rfl⟩
  have HXs : Hid (Sealed l0 l1 ad X) := by rw [← hX]; exact sealed_seal l0 l1 ad m
  have HXo : Hid (openB l0 l1 X = m) := by rw [← hX]; exact open_seal l0 l1 ad m
  have HXe : Hid (sealB l0 l1 ad m = X) := hX
  rw [hX] at hB5
  have HB5 : Hid (Byt w5 a5 (n + 16) X) := hB5
  have Hm5 : Hid (c5 ≤ maxLen) := hm5
  have Hn5 : Hid (a5 = none → c5 = 0) := hn5
  have HK5 : Hid (Arr w5 w.heap.size 23 l0) := HK4.out.later hb5
  have HI5 : Hid (Arr w5 (w.heap.size + 1) 40 l1) := HI4.out.later hb5
  have HW5 : Hid (Below w.heap.size w w5) := HW4.out.trans (hb5.mono HW4.out.size)
  clear hS0 hS1 hb5 own5 hB5 hm5 hn5 HK4 HI4 HW4 hX hsl
  go_wp2_with (first | refine wpList_load_row rfl 23 _ rfl w.heap.size rfl 23 _ (0, 0) _ HK5.out Try.underlying23 rfl hIK.out ?_ | refine wpList_load_row rfl 40 _ rfl (w.heap.size + 1) rfl 40 _ (0, 0) _ HI5.out Try.underlying40 rfl hII.out ?_)
  refine (open_yes l0 l1 a2 la cap2 ad a5 (n + 16) c5 X _ w0 w1 (HB0a.out.later HW5.out) hnil2 (by omega) (by omega) hncma HB5.out Hn5.out (by omega) hc5 Hm5.out HXs.out).mono ?_
  rintro e w6 ⟨a6, c6, rfl, hb6, hB6⟩
  rw [Nat.add_sub_cancel] at hB6 ⊢
  rw [HXo.out] at hB6
  have hdr : Below w6.heap.size w6 w6.drew := (Below.refl _ _).drew
  have HW6 : Hid (Below w.heap.size w w6.drew) := (HW5.out.trans (hb6.mono HW5.out.size)).drew
  have HX6 : Hid (Byt w6.drew a5 (n + 16) X) := (HB5.out.later hb6).later hdr
  have HY6 : Hid (Byt w6.drew a6 n m) := hB6.later hdr
  have HK6 : Hid (Byt w6.drew (some ⟨w.heap.size, 0, none⟩) 32 l0) := (((HK5.out.later hb6).byt 32 w0)).later hdr
  have HI6 : Hid (Byt w6.drew (some ⟨w.heap.size + 1, 0, none⟩) 12 l1) := (((HI5.out.later hb6).byt 12 w1)).later hdr
  have HA6 : Hid (Byt w6.drew a2 la ad) := HB0a.out.later HW6.out
  have HM6 : Hid (Byt w6.drew a3 n m) := HB0b.out.later HW6.out
  clear hb6 hB6 hdr HB5 HK5 HI5 HW5 HXs HXo Hm5 Hn5
  go_wp2
  refine wp_region_sched' (G := Grows) (by kernel_rfl) Grows.refl Grows.trans (by kernel_rfl) [(0, true), (1, true), (2, true), (3, true), (4, true), (5, true), (6, true), (7, true), (8, false), (9, true), (10, true), (11, true), (12, true), (13, true), (14, true), (15, true), (16, true), (17, true), (18, true), (19, true), (20, true), (21, true), (22, true), (23, true), (24, true), (25, true), (26, true), (27, true), (28, true), (29, true), (30, true), (31, true), (32, true)] rfl (by kernel_rfl) ?_
  intro KK hKK
  generalize w6.drew = W at HW6 HX6 HY6 HK6 HI6 HA6 HM6 ⊢
  have hSX := S_beq X X
  have hSm := S_beq m m
  iterate 8 (refine sched_take rfl (by rfl) (v := ?_) ?_ ?_; rotate_left; (intro w' hw'; have q1 := conv_bytes w' a5 (n + 16) c5 X (HX6.out.on hw'); clear hw'; go_simp; with_reducible rfl); go_simp)
  refine sched_call (f := 21) (args := #[.slice (some ⟨w.heap.size, 0, none⟩) 32 32, .slice (some ⟨w.heap.size + 1, 0, none⟩) 12 12, .slice a2 la cap2, .slice a3 n cap3]) rfl (by rfl) (by go_simp) ?_
  refine (refSeal_any w.heap.size 0 (w.heap.size + 1) 0 32 12 l0 l1 a2 la cap2 ad a3 n cap3 m _ (by omega) (by omega) (by omega) (by omega) HK6.out HI6.out HA6.out hnil2 HM6.out (by omega) (by omega) (by omega) hncmb).mono ?_
  rintro e w7 ⟨v7, rfl, hb7, own7⟩
  refine ⟨_, rfl, hb7, ?_⟩
  obtain ⟨a7, c7, rfl, hB7, _, _, _⟩ := own_parts own7
  rw [HXe.out] at hB7
  have HB7 : Hid (Byt w7 a7 (n + 16) X) := hB7
  have HW7 : Hid (Below w.heap.size w w7) := HW6.out.trans (hb7.mono HW6.out.size)
  have HY7 : Hid (Byt w7 a6 n m) := HY6.out.later hb7
  have HA7 : Hid (Byt w7 a2 la ad) := HA6.out.later hb7
  have HM7 : Hid (Byt w7 a3 n m) := HM6.out.later hb7
  clear hb7 own7 hB7 HX6 HY6 HK6 HI6 HA6 HM6 HW6
  go_simp
  iterate 24 (refine sched_take rfl (by rfl) (v := ?_) ?_ ?_; rotate_left; (intro w' hw'; have q1 := conv_bytes w' a7 (n + 16) c7 X (HB7.out.on hw'); have q2 := conv_bytes w' a6 n c6 m (HY7.out.on hw'); have q3 := conv_bytes w' a2 la cap2 ad (HA7.out.on hw'); have q4 := conv_bytes w' a3 n cap3 m (HM7.out.on hw'); clear hw'; go_simp; with_reducible rfl); go_simp)
  refine sched_done hKK ?_
  go_wp2
  go_ret
  exact ⟨rfl, HW7.out⟩
end Go.Proofs.Ytcnihgjibiidpaa.aeadSeals
