/- The bytes of what stands in the program's attributes (stage 12). -/
import Derived.Test.YtejbhjcopldekaaStuA
import Derived.Test.YtejbhjcopldekaaMathStuC
import Derived.Test.YtejbhjcopldekaaFrameA
namespace Go.Proofs.Ytejbhjcopldekaa
set_option linter.unusedVariables false
set_option maxRecDepth 100000
open Go.RowKit

/-- Numbers that lie in a row. -/
structure NumsAt (w : World) (a : Option Addr) (n : Nat) (l : List Int) : Prop where
  len : l.length = n
  at_ : ∀ i (hi : i < l.length), ∃ b off, a = some ⟨b, off, none⟩ ∧ b < w.heap.size ∧ w.cell? ⟨b, off + i, none⟩ = some (.int .i64 l[i])
theorem NumsAt.later {w w' : World} {a : Option Addr} {n : Nat} {l : List Int} (h : NumsAt w a n l) (hb : Below w.heap.size w w') : NumsAt w' a n l :=
  ⟨h.len, fun i hi => by
    obtain ⟨b, off, e, hbw, hc⟩ := h.at_ i hi
    exact ⟨b, off, e, Nat.lt_of_lt_of_le hbw hb.size, by rw [hb.cell (p := ⟨b, off + i, none⟩) hbw]; exact hc⟩⟩
/-- The program's message, as it is handed over. -/
def sMsg (m : SM) (ua : Option Addr) (uc : Nat) : Array Value :=
  #[.int .i64 m.cls, bv (at8 m.id 0), bv (at8 m.id 1), bv (at8 m.id 2), bv (at8 m.id 3), bv (at8 m.id 4), bv (at8 m.id 5), bv (at8 m.id 6), bv (at8 m.id 7), bv (at8 m.id 8), bv (at8 m.id 9), bv (at8 m.id 10), bv (at8 m.id 11),
    .int .u32 (m.host : Int), .int .i64 m.port, .string (S m.soft), .int .i64 m.code, .string (S m.reason), .slice ua m.unk.length uc]

set_option maxHeartbeats 1000000 in
theorem smapped_new (H P : Nat) (hH : H < 4294967296) (hP : P < 65536) (w : World) :
    Calls Try.prog 52 #[.agg #[.int .u32 (H : Int), .int .i64 (P : Int)]] w fun e w' => ∃ g, e = .returned (.slice (some ⟨g, 0, none⟩) 8 8) ∧ NewB w w' (.slice (some ⟨g, 0, none⟩) 8 8) ([0, 1] ++ putB 2 (P ^^^ 8466) true ++ putB 4 (H ^^^ 554869826) true) := by
  have x1 : bits .xor .i64 (P : Int) 8466 = ((P ^^^ 8466 : Nat) : Int) := xorI P 8466 (by omega) (by decide)
  have x2 : bits .xor .u32 (H : Int) 554869826 = ((H ^^^ 554869826 : Nat) : Int) := xorU H 554869826 hH (by decide)
  have y1 : P ^^^ 8466 < 65536 := xor16 P hP
  have y2 : H ^^^ 554869826 < 4294967296 := xor32 H hH
  obtain ⟨X, hX⟩ : ∃ X, P ^^^ 8466 = X := ⟨_, rfl⟩
  obtain ⟨Y, hY⟩ : ∃ Y, H ^^^ 554869826 = Y := ⟨_, rfl⟩
  rw [hX] at x1 y1
  rw [hY] at x2 y2
  rw [hX, hY]
  have hwY : IntKind.i64.wrap (Y : Int) = (Y : Int) := by rw [IntKind.wrap_i64]; omega
  clear hX hY
  have hrow := heap_alloc_new w (.cells #[.int .u32 (H : Int), .int .i64 (P : Int)] 26)
  have hb0 : Below w.heap.size w (w.alloc (.cells #[.int .u32 (H : Int), .int .i64 (P : Int)] 26)) := (Below.refl _ _).alloc (Nat.le_refl _) _
  have hlt : w.heap.size < (w.alloc (.cells #[.int .u32 (H : Int), .int .i64 (P : Int)] 26)).heap.size := by rw [World.size_alloc]; omega
  go_enter Try.func52, Try.ntmps52
  go_wp2_with fail
  obtain ⟨W, hW⟩ : ∃ W, w.alloc (.cells #[.int .u32 (H : Int), .int .i64 (P : Int)] 26) = W := ⟨_, rfl⟩
  rw [hW] at hrow hb0 hlt
  rw [hW]
  clear hW
  refine (sput_new none 0 0 2 1 [] W (by omega) ⟨rfl, .inl rfl⟩ (by omega) (by omega)).mono ?_
  rintro e w1 ⟨g1, rfl, hN1⟩
  have hr1 : w1.heap[w.heap.size]? = some (.cells #[.int .u32 (H : Int), .int .i64 (P : Int)] 26 (0, 0)) := (hN1.1.block _ hlt).trans hrow
  have hl1 := hN1.1.size
  have q1 : w1.cell? ⟨w.heap.size, 1, none⟩ = some (.int .i64 (P : Int)) := by rw [cell_of_row w1 _ 1 _ _ (0, 0) hr1]; rfl
  have hB1 := (hN1.at_ (show ([] ++ putB 2 1 true).length = 0 + 2 by simp [putB_length])).1
  have HN1 := uhid hN1
  clear hN1
  go_wp2_with fail
  refine (sput_new (some ⟨g1, 0, none⟩) (0 + 2) (0 + 2) 2 X ([] ++ putB 2 1 true) w1 (by omega) hB1 (by omega) (by omega)).mono ?_
  rintro e w2 ⟨g2, rfl, hN2⟩
  have hr2 : w2.heap[w.heap.size]? = some (.cells #[.int .u32 (H : Int), .int .i64 (P : Int)] 26 (0, 0)) := (hN2.1.block _ (by omega)).trans hr1
  have q2 : w2.cell? ⟨w.heap.size, 0, none⟩ = some (.int .u32 (H : Int)) := by rw [cell_of_row w2 _ 0 _ _ (0, 0) hr2]; rfl
  have hB2 := (hN2.at_ (show ([] ++ putB 2 1 true ++ putB 2 X true).length = 0 + 2 + 2 by simp [putB_length])).1
  have HN2 := uhid (NewB.trans HN1.out.1 hN2)
  clear hN2
  go_wp2_with fail
  refine (sput_new (some ⟨g2, 0, none⟩) (0 + 2 + 2) (0 + 2 + 2) 4 Y ([] ++ putB 2 1 true ++ putB 2 X true) w2 (by omega) hB2 (by omega) (by omega)).mono ?_
  rintro e w3 ⟨g3, rfl, hN3⟩
  have HN3 := uhid (NewB.trans hb0 (NewB.trans HN2.out.1 hN3))
  clear hN3
  go_wp2_with fail
  go_ret
  refine ⟨g3, rfl, ?_⟩
  have h := HN3.out
  simpa [show putB 2 1 true = [0, 1] by decide] using h

set_option maxHeartbeats 2000000 in
theorem scode_new (m : SM) (ua : Option Addr) (uc : Nat) (h0 : 300 ≤ m.code) (h1 : m.code ≤ 699) (hr : m.reason.length ≤ 100) (w : World) :
    Calls Try.prog 53 #[.agg (sMsg m ua uc)] w fun e w' => ∃ a c, e = .returned (.slice a (4 + m.reason.length) c) ∧ NewB w w' (.slice a (4 + m.reason.length) c) ([0, 0, UInt8.ofNat (m.code.toNat / 100), UInt8.ofNat (m.code.toNat % 100)] ++ m.reason) := by
  obtain ⟨n, hn⟩ : ∃ n : Nat, m.code = (n : Int) := ⟨m.code.toNat, by omega⟩
  have htn : m.code.toNat = n := by omega
  have d1 : (n : Int).tdiv 100 = ((n / 100 : Nat) : Int) := by rw [Int.tdiv_eq_ediv_of_nonneg (by omega)]; omega
  have d2 : (n : Int).tmod 100 = ((n % 100 : Nat) : Int) := by rw [Int.tmod_eq_emod_of_nonneg (by omega)]; omega
  have hw1 : IntKind.i64.wrap ((n : Int) / 100) = (n : Int) / 100 := by rw [IntKind.wrap_i64]; omega
  obtain ⟨q, hq⟩ : ∃ q, n / 100 = q := ⟨_, rfl⟩
  obtain ⟨r, hr2⟩ : ∃ r, n % 100 = r := ⟨_, rfl⟩
  have hq2 : (n : Int) / 100 = (q : Int) := by omega
  have hr3 : (n : Int) % 100 = (r : Int) := by omega
  have hql : q < 256 := by omega
  have hrl : r < 256 := by omega
  rw [htn, hq, hr2]
  rw [hq] at d1
  rw [hr2] at d2
  rw [hq2] at hw1
  obtain ⟨arr, harr⟩ : ∃ arr, sMsg m ua uc = arr := ⟨_, rfl⟩
  have a16 : arr[16]? = some (.int .i64 (n : Int)) := by rw [← harr, sMsg, ← hn]; rfl
  have a17 : arr[17]? = some (.string (S m.reason)) := by rw [← harr, sMsg]; rfl
  have hsz : arr.size = 19 := by rw [← harr]; rfl
  rw [harr]
  clear harr hn htn h0 h1
  have hrow := heap_alloc_new w (.cells arr 29)
  have hb0 : Below w.heap.size w (w.alloc (.cells arr 29)) := (Below.refl _ _).alloc (Nat.le_refl _) _
  have hlt : w.heap.size < (w.alloc (.cells arr 29)).heap.size := by rw [World.size_alloc]; omega
  go_enter Try.func53, Try.ntmps53
  go_wp2_with fail
  obtain ⟨W, hW⟩ : ∃ W, w.alloc (.cells arr 29) = W := ⟨_, rfl⟩
  rw [hW] at hrow hb0 hlt
  rw [hW]
  clear hW
  refine (sput_new none 0 0 2 0 [] W (by omega) ⟨rfl, .inl rfl⟩ (by omega) (by omega)).mono ?_
  rintro e w1 ⟨g1, rfl, hN1⟩
  have hr1 : w1.heap[w.heap.size]? = some (.cells arr 29 (0, 0)) := (hN1.1.block _ hlt).trans hrow
  have hl1 := hN1.1.size
  have q1 : w1.cell? ⟨w.heap.size, 16, none⟩ = some (.int .i64 (n : Int)) := by rw [cell_of_row w1 _ 16 _ _ (0, 0) hr1]; exact a16
  have hB1 := (hN1.at_ (show ([] ++ putB 2 0 true).length = 0 + 2 by simp [putB_length])).1
  have HN1 := uhid hN1
  clear hN1
  go_wp2_with fail
  refine (sput_new (some ⟨g1, 0, none⟩) (0 + 2) (0 + 2) 1 q ([] ++ putB 2 0 true) w1 (by omega) hB1 (by omega) (by omega)).mono ?_
  rintro e w2 ⟨g2, rfl, hN2⟩
  have hr2 : w2.heap[w.heap.size]? = some (.cells arr 29 (0, 0)) := (hN2.1.block _ (by omega)).trans hr1
  have hl2 := hN2.1.size
  have q2 : w2.cell? ⟨w.heap.size, 16, none⟩ = some (.int .i64 (n : Int)) := by rw [cell_of_row w2 _ 16 _ _ (0, 0) hr2]; exact a16
  have hB2 := (hN2.at_ (show ([] ++ putB 2 0 true ++ putB 1 q true).length = 0 + 2 + 1 by simp [putB_length])).1
  have HN2 := uhid (NewB.trans HN1.out.1 hN2)
  clear hN2 q1
  go_wp2_with fail
  refine (sput_new (some ⟨g2, 0, none⟩) (0 + 2 + 1) (0 + 2 + 1) 1 r ([] ++ putB 2 0 true ++ putB 1 q true) w2 (by omega) hB2 (by omega) (by omega)).mono ?_
  rintro e w3 ⟨g3, rfl, hN3⟩
  have hr3' : w3.heap[w.heap.size]? = some (.cells arr 29 (0, 0)) := (hN3.1.block _ (by omega)).trans hr2
  have q3 : w3.cell? ⟨w.heap.size, 17, none⟩ = some (.string (S m.reason)) := by rw [cell_of_row w3 _ 17 _ _ (0, 0) hr3']; exact a17
  have hN3' := NewB.trans hb0 (NewB.trans HN2.out.1 hN3)
  have hl3 : ([] ++ putB 2 0 true ++ putB 1 q true ++ putB 1 r true).length = 4 := by simp [putB_length]
  obtain ⟨a4, c4, w4, hap, hN4⟩ := hN3'.str m.reason (by rw [hl3]; omega)
  rw [hl3] at hap hN4
  have HAP := uhid hap
  have HN4 := uhid hN4
  clear hN3 hN3' hap hN4 q2
  go_wp2_with (at_builtin; refine wpList_append_run2 rfl (.tmp 15) (.tmp 17) 32 9 rfl _ _ _ _ rfl rfl HAP.out ?_)
  go_ret
  refine ⟨a4, c4, rfl, ?_⟩
  have h := HN4.out
  simpa [show putB 2 0 true = [0, 0] by decide, putB_one q hql, putB_one r hrl] using h

set_option maxHeartbeats 1000000 in
theorem snums_new (l : List Int) (ua : Option Addr) (uc : Nat) (w : World) (hU : NumsAt w ua l.length l) (hl : l.length ≤ 20) (hn : ∀ n ∈ l, 0 ≤ n ∧ n ≤ 65535) :
    Calls Try.prog 54 #[.slice ua l.length uc] w fun e w' => ∃ a n c, e = .returned (.slice a n c) ∧ n = (sUnk l).length ∧ NewB w w' (.slice a n c) (sUnk l) := by
  have HU := uhid hU
  have HN := uhid hn
  clear hU hn
  have h0 : NewB w w (.slice none 0 0) [] := ⟨Below.refl _ _, rfl, .inl ⟨rfl, rfl⟩⟩
  go_enter Try.func54, Try.ntmps54
  go_wp2
  go_loopw [3, 8] (fun v i wr => ∃ (k n : Nat) (a : Option Addr) (c : Nat), k ≤ l.length ∧ n = 2 * k ∧ i = .int .i64 k ∧ v = .slice a n c ∧ Hid (NewB w wr (.slice a n c) (sUnk (l.take k)))) (fun _ i _ => l.length - (intOf i).toNat)
  case atStart => exact ⟨0, 0, none, 0, Nat.zero_le _, rfl, rfl, rfl, by show NewB _ _ _ _; simpa [sUnk] using h0⟩
  case round =>
    obtain ⟨k, n, a, c, hk, hn2, rfl, rfl, hN⟩ := hrel
    by_cases hlt : k < l.length
    · have i1 : (k : Int) < (l.length : Int) := by omega
      obtain ⟨b, off, rfl, hbw, hc0⟩ := HU.out.at_ k hlt
      have hc := hc0
      rw [← hN.out.1.cell (p := ⟨b, off + k, none⟩) hbw] at hc
      clear hc0
      obtain ⟨x0, x1⟩ := HN.out l[k] (List.getElem_mem hlt)
      obtain ⟨x, hx⟩ : ∃ x : Nat, l[k] = (x : Int) := ⟨l[k].toNat, by omega⟩
      have hkl : (sUnk (l.take k)).length = n := by rw [sUnk_length, List.length_take]; omega
      have hB := (hN.out.at_ hkl).1
      have HX : Hid (sUnk (l.take k) ++ putB 2 x true = sUnk (l.take (k + 1))) := uhid (by rw [sUnk_take l k hlt, hx]; rfl)
      rw [hx] at hc x0 x1
      have X0 := uhid x0
      have X1 := uhid x1
      have hx9 : x < 65536 := by omega
      have HB := uhid hB
      have HN2 := uhid hn2
      clear hx x0 x1 X0 X1 hB hkl hn2
      go_wp2_with fail
      refine (sput_new a n c 2 x (sUnk (l.take k)) wr (by have := HN2.out; omega) HB.out (by omega) (by omega)).mono ?_
      rintro e w1 ⟨g1, rfl, hN1⟩
      have HN1 := uhid (NewB.trans hN.out.1 hN1)
      rw [HX.out] at HN1
      clear hN1 hN HB
      go_wp2_with fail
      exact ⟨⟨k + 1, n + 2, _, _, by omega, by have := HN2.out; omega, by go_num, rfl, HN1⟩, by simp [intOf]; omega⟩
    · have i1 : ¬ (k : Int) < (l.length : Int) := by omega
      have hN2 := hN.out
      rw [List.take_of_length_le (by omega)] at hN2
      have HL : Hid (n = (sUnk l).length) := uhid (by rw [sUnk_length]; omega)
      have HN2 := uhid hN2
      clear hN hN2 hn2
      go_wp2_with fail
      go_ret
      exact ⟨a, n, c, rfl, HL.out, HN2.out⟩
end Go.Proofs.Ytejbhjcopldekaa
