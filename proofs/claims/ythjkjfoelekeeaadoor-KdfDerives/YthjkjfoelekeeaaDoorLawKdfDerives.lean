/- KdfDerives: keys of a key are what the document says. For every key and row of bytes, where the program's tables are as its text lays them. -/
import Derived.Test.YthjkjfoelekeeaaDoorKdfShown
import Derived.Test.YthjkjfoelekeeaaDoorRefKc
namespace Go.Proofs.YthjkjfoelekeeaaDoor.kdfDerives
open Go.ChangeShapes Go.WideShapes Go.ChangeAt Go.RowKit
set_option linter.unusedVariables false

set_option maxHeartbeats 4000000 in
set_option maxRecDepth 100000 in
theorem walk (l0 : List UInt8) (a1 : Option Addr) (len1 cap1 : Nat) (z1 : List Int) (w : World) (w0 : l0.length = 32) (w1 : IsRow .u8 w a1 len1 cap1 z1) (htab : Tab w) :
    Calls Tryd.prog 4 #[.agg (l0.map bv).toArray, .slice a1 len1 cap1] w fun e w' => e = .returned (.bool true) ∧ Below w.heap.size w w' := by
  have hnil1 := krow_nil w1
  obtain ⟨m, n, hnE30, hn1b, hn2b, hncb, hncmb, hBmb⟩ := cut_row w1 200
  have hnEb : (if (200 : Int) < (len1 : Int) then (200 : Int) else (len1 : Int)) = (n : Int) := hnE30
  have hlmb := hBmb.1
  have HB0b : Hid (Byt w a1 n m) := hBmb
  clear hnE30 w1 hBmb
  have IK : (Tryd.prog.info? 25).map (·.size) = some 32 := by kernel_rfl
  have hIK : Hid ((Tryd.prog.info? 25).map (·.size) = some (l0.map bv).toArray.size) := info_size IK l0 w0
  clear IK
  have HTab : Hid (Tab w) := htab
  clear htab
  go_enter Tryd.func4, Tryd.ntmps4
  go_wp2_with fail
  refine (kdfShown_any _ (HTab.out.alloc _)).mono ?_
  rintro e w4 ⟨rfl, hb4⟩
  have hbel0 : Below w.heap.size w (w.alloc (.cells (l0.map bv).toArray 25)) := (Below.refl _ _).alloc (Nat.le_refl _) _
  have HK4 : Hid (Arr w4 w.heap.size 25 l0) := (Arr.new w _ l0).later hb4
  have HW4 : Hid (Below w.heap.size w w4) := hbel0.trans (hb4.mono hbel0.size)
  clear hb4 hbel0
  go_wp2_with (first | refine wpList_load_row rfl 25 _ rfl w.heap.size rfl 25 _ (0, 0) _ HK4.out Tryd.underlying25 rfl hIK.out ?_)
  refine (derive_any l0 a1 n cap1 m _ w0 (HB0b.out.later HW4.out) hnil1 (by omega) (by omega) hncmb (HTab.out.later HW4.out)).mono ?_
  rintro e w1 ⟨rfl, hb1⟩
  obtain ⟨d1, hd1⟩ : ∃ d, der1 l0 m = d := ⟨_, rfl⟩
  obtain ⟨d2, hd2⟩ : ∃ d, der2 l0 m = d := ⟨_, rfl⟩
  obtain ⟨d3, hd3⟩ : ∃ d, der3 l0 m = d := ⟨_, rfl⟩
  have l1 : d1.length = 32 := by rw [← hd1]; exact der1_length _ _
  have l2 : d2.length = 32 := by rw [← hd2]; exact der2_length _ _
  have l3 : d3.length = 32 := by rw [← hd3]; exact der3_length _ _
  have HD : Hid (der1 l0 m ++ der2 l0 m ++ der3 l0 m = d1 ++ d2 ++ d3) := by show _ = _; rw [hd1, hd2, hd3]
  rw [hd1, hd2, hd3]
  have hW1 : Below w.heap.size w w1 := HW4.out.trans (hb1.mono HW4.out.size)
  have hKey1 := HK4.out.later hb1
  have hK0 := K3.new hW1 (List.replicate 32 0) (List.replicate 32 0) (List.replicate 32 0)
  have hst1 := store_row _ _ _ _ (d1.map bv) hK0.a (by simp [l1]) (bv_oneCell d1)
  have hK1 := hK0.putA d1
  have hkk : ∀ (V : World) (g : Nat) (cs : Array Value), w1.heap.size ≤ g → Arr V w.heap.size 25 l0 → Arr (V.setRow g cs) w.heap.size 25 l0 := fun V g cs hg h => h.keep' (by have := hKey1.lt; omega) cs
  have hKy0 : Arr (((w1.alloc (.cells ((List.replicate 32 (0 : UInt8)).map bv).toArray 25)).alloc (.cells ((List.replicate 32 (0 : UInt8)).map bv).toArray 25)).alloc (.cells ((List.replicate 32 (0 : UInt8)).map bv).toArray 25)) w.heap.size 25 l0 :=
    ((hKey1.later ((Below.refl _ _).alloc (Nat.le_refl _) _)).later ((Below.refl _ _).alloc (Nat.le_refl _) _)).later ((Below.refl _ _).alloc (Nat.le_refl _) _)
  have hKy1 := hkk _ w1.heap.size (d1.map bv).toArray (Nat.le_refl _) hKy0
  obtain ⟨W1, hW1e⟩ : ∃ W1, (((w1.alloc (.cells ((List.replicate 32 (0 : UInt8)).map bv).toArray 25)).alloc (.cells ((List.replicate 32 (0 : UInt8)).map bv).toArray 25)).alloc (.cells ((List.replicate 32 (0 : UInt8)).map bv).toArray 25)).setRow w1.heap.size (d1.map bv).toArray = W1 := ⟨_, rfl⟩
  rw [hW1e] at hst1 hK1 hKy1
  have kst1 : (storeCells ⟨w1.heap.size, 0, none⟩ (d1.map bv)).run Tryd.prog (((w1.alloc (.cells #[.int .u8 0, .int .u8 0, .int .u8 0, .int .u8 0, .int .u8 0, .int .u8 0, .int .u8 0, .int .u8 0, .int .u8 0, .int .u8 0, .int .u8 0, .int .u8 0, .int .u8 0, .int .u8 0, .int .u8 0, .int .u8 0, .int .u8 0, .int .u8 0, .int .u8 0, .int .u8 0, .int .u8 0, .int .u8 0, .int .u8 0, .int .u8 0, .int .u8 0, .int .u8 0, .int .u8 0, .int .u8 0, .int .u8 0, .int .u8 0, .int .u8 0, .int .u8 0] 25)).alloc (.cells #[.int .u8 0, .int .u8 0, .int .u8 0, .int .u8 0, .int .u8 0, .int .u8 0, .int .u8 0, .int .u8 0, .int .u8 0, .int .u8 0, .int .u8 0, .int .u8 0, .int .u8 0, .int .u8 0, .int .u8 0, .int .u8 0, .int .u8 0, .int .u8 0, .int .u8 0, .int .u8 0, .int .u8 0, .int .u8 0, .int .u8 0, .int .u8 0, .int .u8 0, .int .u8 0, .int .u8 0, .int .u8 0, .int .u8 0, .int .u8 0, .int .u8 0, .int .u8 0] 25)).alloc (.cells #[.int .u8 0, .int .u8 0, .int .u8 0, .int .u8 0, .int .u8 0, .int .u8 0, .int .u8 0, .int .u8 0, .int .u8 0, .int .u8 0, .int .u8 0, .int .u8 0, .int .u8 0, .int .u8 0, .int .u8 0, .int .u8 0, .int .u8 0, .int .u8 0, .int .u8 0, .int .u8 0, .int .u8 0, .int .u8 0, .int .u8 0, .int .u8 0, .int .u8 0, .int .u8 0, .int .u8 0, .int .u8 0, .int .u8 0, .int .u8 0, .int .u8 0, .int .u8 0] 25)) = .ok () W1 := hst1
  have kst2 := store_row _ _ _ _ (d2.map bv) hK1.b (by simp [l2]) (bv_oneCell d2)
  have hK2 := hK1.putB d2
  have hKy2 := hkk _ (w1.heap.size + 1) (d2.map bv).toArray (by omega) hKy1
  obtain ⟨W2, hW2e⟩ : ∃ W2, W1.setRow (w1.heap.size + 1) (d2.map bv).toArray = W2 := ⟨_, rfl⟩
  rw [hW2e] at kst2 hK2 hKy2
  have kst3 := store_row _ _ _ _ (d3.map bv) hK2.c (by simp [l3]) (bv_oneCell d3)
  have hK3 := hK2.putC d3
  have hKy3 := hkk _ (w1.heap.size + 1 + 1) (d3.map bv).toArray (by omega) hKy2
  obtain ⟨W3, hW3e⟩ : ∃ W3, W2.setRow (w1.heap.size + 1 + 1) (d3.map bv).toArray = W3 := ⟨_, rfl⟩
  rw [hW3e] at kst3 hK3 hKy3
  have hdr : Below W3.heap.size W3 W3.drew := (Below.refl _ _).drew
  have HK3 : Hid (K3 w w1.heap.size d1 d2 d3 W3.drew) := hK3.later hdr
  have HKy : Hid (Arr W3.drew w.heap.size 25 l0) := hKy3.later hdr
  clear hK0 hK1 hK2 hK3 hb1 hW1 hW1e hW2e hW3e hst1 hKey1 hkk hKy0 hKy1 hKy2 hKy3 hdr HK4 HW4 hd1 hd2 hd3
  go_wp2
  clear kst1 kst2 kst3
  generalize w1.heap.size = g at HK3 ⊢
  refine wp_region_sched' (G := Grows) (by kernel_rfl) Grows.refl Grows.trans (by kernel_rfl) [(0, true), (1, true), (2, true), (3, true), (4, true), (5, true), (6, true), (7, true), (8, true)] rfl (by kernel_rfl) ?_
  intro KK hKK
  generalize W3.drew = W at HK3 HKy ⊢
  have hz1 : (S d1).size = 32 := l1
  have hz2 : (S d2).size = 32 := l2
  have hz3 : (S d3).size = 32 := l3
  iterate 9 (refine sched_take rfl (by rfl) (v := ?_) ?_ ?_; rotate_left; (intro w' hw'; have q1 := conv_bytes w' (some ⟨g, 0, none⟩) 32 32 d1 ((HK3.out.a.byt 32 l1).on hw'); have q2 := conv_bytes w' (some ⟨g + 1, 0, none⟩) 32 32 d2 ((HK3.out.b.byt 32 l2).on hw'); have q3 := conv_bytes w' (some ⟨g + 1 + 1, 0, none⟩) 32 32 d3 ((HK3.out.c.byt 32 l3).on hw'); clear hw'; go_simp; with_reducible rfl); go_simp)
  refine sched_done hKK ?_
  have HBW : Hid (Byt W a1 n m) := HB0b.out.later HK3.out.bel
  have HKW : Hid (Byt W (some ⟨w.heap.size, 0, none⟩) 32 l0) := HKy.out.byt 32 w0
  go_wp2_with fail
  refine (refDerive_any (some ⟨w.heap.size, 0, none⟩) 32 32 l0 a1 n cap1 m W HKW.out (fun e => by cases e) (by omega) (by omega) HBW.out hnil1 (by omega) (by omega)).mono ?_
  rintro e w7 ⟨v7, rfl, hb7, own7⟩
  rw [HD.out] at own7
  obtain ⟨a7, c7, rfl, hB7, _, _, _⟩ := own_parts own7
  have HW7 : Hid (Below w.heap.size w w7) := HK3.out.bel.trans (hb7.mono HK3.out.bel.size)
  have hS7 := conv_bytes w7 a7 96 c7 _ hB7
  rw [S_append, S_append]
  have hSb := S_beq (d1 ++ d2 ++ d3) (d1 ++ d2 ++ d3)
  clear hB7 own7 hb7 HK3 HKy HBW HKW
  generalize d1 ++ d2 ++ d3 = D at hS7 hSb ⊢
  go_wp2
  go_ret
  exact ⟨rfl, HW7.out⟩
end Go.Proofs.YthjkjfoelekeeaaDoor.kdfDerives
