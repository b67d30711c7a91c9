/- BlakeBytes: byte by byte it is the same. For every row of bytes, where the program's tables are as its text lays them. -/
import Derived.Test.YtfalekfddeaioaaDoorBlkShown
namespace Go.Proofs.YtfalekfddeaioaaDoor.blakeBytes
open Go.ChangeShapes Go.WideShapes Go.ChangeAt Go.RowKit
set_option linter.unusedVariables false

/-- While bytes are written, one by one. -/
structure BB (w : World) (g : Nat) (a : Option Addr) (n : Nat) (m C : List UInt8) (W : World) : Prop where
  h : HashIs W g C
  b : Byt W a n m
  bel : Below w.heap.size w W
theorem BB.write {w W W' : World} {g n : Nat} {a : Option Addr} {m C C' : List UInt8} (x : BB w g a n m C W) (h : HashIs W' g C') (hG : W.grownBy W' (some g)) (hg : w.heap.size ≤ g) (ho : ∀ b o f, a = some ⟨b, o, f⟩ → 0 < n → b < w.heap.size) : BB w g a n m C' W' := by
  have hb : Below w.heap.size W W' := ⟨hG.os, hG.tape, hG.output, hG.size, fun k hk => hG.block k (by have := x.bel.size; omega) (fun e => by cases e; omega)⟩
  refine ⟨h, ?_, x.bel.trans hb⟩
  rcases x.b.2 with h0 | ⟨b, off, e, hc⟩
  · exact ⟨x.b.1, .inl h0⟩
  · by_cases hn : 0 < n
    · have h1 := ho b off none e hn
      subst e
      exact Byt.below x.b h1 hb
    · exact ⟨x.b.1, .inl (by omega)⟩

set_option maxHeartbeats 2000000 in
set_option maxRecDepth 100000 in
theorem walk (a0 : Option Addr) (len0 cap0 : Nat) (z0 : List Int) (w : World) (w0 : IsRow .u8 w a0 len0 cap0 z0) (htab : Tab w) :
    Calls Tryd.prog 7 #[.slice a0 len0 cap0] w fun e w' => e = .returned (.bool true) ∧ Below w.heap.size w w' := by
  have hnil := brow_nil w0
  obtain ⟨m, n, hnE0, hn1, hn2, hnc, hncm, hBm⟩ := cut_row w0 300
  have hnE : (if (300 : Int) < (len0 : Int) then (300 : Int) else (len0 : Int)) = (n : Int) := hnE0
  have hlm := hBm.1
  clear hnE0 w0
  have HB0 : Hid (Byt w a0 n m) := hBm
  have HTab : Hid (Tab w) := htab
  have hlt := htab.lt
  have hcm' : cap0 ≤ 9223372036854775807 := by unfold maxLen at hncm; exact hncm
  have HO : Hid (∀ b o f, a0 = some ⟨b, o, f⟩ → 0 < n → b < w.heap.size) := by
    intro b o f e hn
    rcases hBm.2 with h0 | ⟨b', o', e', hc⟩
    · omega
    · rw [e'] at e
      cases e
      rw [e'] at hBm
      exact hBm.lt hn
  clear hBm htab
  go_enter Tryd.func7, Tryd.ntmps7
  go_wp2_with fail
  refine (blkShown_any _ HTab.out).mono ?_
  rintro e w4 ⟨rfl, hb4⟩
  have HW4 : Hid (Below w.heap.size w w4) := hb4
  clear hb4
  go_wp2_with fail
  refine (bnew_any w4 (HTab.out.later HW4.out)).mono ?_
  rintro e w5 ⟨g, rfl, hg, hH5, hb5⟩
  have hgw : w.heap.size ≤ g := Nat.le_trans HW4.out.size hg
  have hgt : g ≠ 0 ∧ g ≠ 1 := by omega
  have hW5 : Below w.heap.size w w5 := HW4.out.trans (hb5.mono HW4.out.size)
  have HX5 : Hid (BB w g a0 n m (m.take 0) w5) := ⟨hH5, HB0.out.later hW5, hW5⟩
  clear hg hH5 hb5 hW5 HW4 HB0
  go_wp2
  go_loopw [5] (fun i wr => ∃ k : Nat, k ≤ n ∧ i = .int .i64 k ∧ Hid (BB w g a0 n m (m.take k) wr)) (fun i _ => n - (intOf i).toNat)
  case atStart => exact ⟨0, Nat.zero_le _, rfl, HX5⟩
  case round =>
    clear HX5
    obtain ⟨k, hk, rfl, HX⟩ := hrel
    by_cases hlt2 : k < n
    · have i1 : (k : Int) < (n : Int) := by omega
      obtain ⟨b, off, rfl, hcell⟩ := HX.out.b.at_ k hlt2
      have hbw := HO.out b off none rfl (by omega)
      have e1 : (k : Int) + 1 ≤ (cap0 : Int) := by omega
      have e2 : (k : Int) ≤ (k : Int) + 1 := by omega
      have e3 : ¬ cap0 = k := by omega
      have e4 : (k : Int) + 1 ≤ 9223372036854775807 := by omega
      have e5 : k + 1 - k = 1 := by omega
      have hsub := HX.out.b.sub (n := k) (q := k + 1) (by omega) (by omega)
      rw [e5] at hsub
      have HSub : Hid (Byt wr (some ⟨b, off + k, none⟩) 1 ((m.drop k).take 1)) := hsub
      have HT : Hid (Tab wr) := HTab.out.later HX.out.bel
      have HTk : Hid (m.take k ++ (m.drop k).take 1 = m.take (k + 1)) := by show _ = _; rw [List.take_add]
      have hml : (m.take k).length ≤ 300 := by simp; omega
      clear hsub
      go_wp2_with fail
      refine (bwrite_any g (m.take k) (some ⟨b, off + k, none⟩) 1 (cap0 - k) ((m.drop k).take 1) wr HX.out.h HSub.out (fun e => by cases e) (fun _ b' o' f' e => by cases e; omega) (by omega) (Nat.le_trans (Nat.sub_le _ _) hncm) (by omega) HT.out hgt).mono ?_
      rintro e w6 ⟨⟨v, rfl⟩, hH6, hG6⟩
      rw [HTk.out] at hH6
      have HX6 : Hid (BB w g (some ⟨b, off, none⟩) n m (m.take (k + 1)) w6) := HX.out.write hH6 hG6 hgw HO.out
      clear hH6 hG6 HX HSub HT HTk hcell
      obtain ⟨b', off', eb, hcell⟩ := HX6.out.b.at_ k hlt2
      cases eb
      have HT6 : Hid (Tab w6) := HTab.out.later HX6.out.bel
      have hml6 : (m.take (k + 1)).length ≤ 300 := by simp; omega
      obtain ⟨x, hx⟩ : ∃ x, (at8 m k).toNat = x := ⟨_, rfl⟩
      rw [hx] at hcell
      by_cases hpar : x % 2 = 0
      · have hp1 : ((x : Int)).tmod 2 = 0 := by rw [Int.tmod_eq_emod_of_nonneg (by omega)]; omega
        go_wp2_with fail
        refine (bwrite_any g (m.take (k + 1)) none 0 0 [] w6 HX6.out.h ⟨rfl, .inl rfl⟩ (fun _ => rfl) (fun h0 => absurd h0 (Nat.lt_irrefl 0)) (Nat.le_refl _) (Nat.zero_le _) (by omega) HT6.out hgt).mono ?_
        rintro e w7 ⟨⟨v7, rfl⟩, hH7, hG7⟩
        rw [List.append_nil] at hH7
        have HX7 : Hid (BB w g (some ⟨b, off, none⟩) n m (m.take (k + 1)) w7) := HX6.out.write hH7 hG7 hgw HO.out
        clear hH7 hG7 HX6 HT6
        go_wp2
        exact ⟨⟨k + 1, by omega, by go_num, HX7⟩, by simp [intOf]; omega⟩
      · have hp1 : ((x : Int)).tmod 2 = 1 := by rw [Int.tmod_eq_emod_of_nonneg (by omega)]; omega
        clear HT6 hpar hx e5 e2 hml hml6
        go_wp2
        exact ⟨⟨k + 1, by omega, by go_num, HX6⟩, by simp [intOf]; omega⟩
    · have ek : k = n := by omega
      have hkr : ¬ (k : Int) < (n : Int) := by omega
      have HX8 : Hid (BB w g a0 n m m wr) := by
        have := HX.out
        rw [List.take_of_length_le (by omega)] at this
        exact this
      clear HX
      have hB := blakeB_length m
      obtain ⟨B, hBe⟩ : ∃ B, blakeB m = B := ⟨_, rfl⟩
      rw [hBe] at hB
      have HBe : Hid (blakeB m = B) := hBe
      clear hBe
      go_wp2_with fail
      refine (bhsum_any g m wr HX8.out.h (by omega) (HTab.out.later HX8.out.bel)).mono ?_
      rintro e w1 ⟨rfl, hb1⟩
      rw [HBe.out]
      have HX1 : Hid (BB w g a0 n m m w1) := ⟨HX8.out.h.later hb1, HX8.out.b.later hb1, HX8.out.bel.trans (hb1.mono HX8.out.bel.size)⟩
      clear hb1 HX8
      go_wp2_with fail
      refine (bsum_any a0 n cap0 m w1 HX1.out.b hnil (by omega) hncm (by omega) (HTab.out.later HX1.out.bel)).mono ?_
      rintro e w2 ⟨rfl, hb2⟩
      rw [HBe.out]
      have HX2 : Hid (BB w g a0 n m m w2) := ⟨HX1.out.h.later hb2, HX1.out.b.later hb2, HX1.out.bel.trans (hb2.mono HX1.out.bel.size)⟩
      clear hb2 HX1
      have q2 := arr_eq w2 25 32 B B hB hB Tryd.underlying25
      rw [decide_eq_true rfl] at q2
      go_wp2_with fail
      clear q2
      refine (bhsum_any g m w2 HX2.out.h (by omega) (HTab.out.later HX2.out.bel)).mono ?_
      rintro e w3 ⟨rfl, hb3⟩
      rw [HBe.out]
      have HX3 : Hid (BB w g a0 n m m w3) := ⟨HX2.out.h.later hb3, HX2.out.b.later hb3, HX2.out.bel.trans (hb3.mono HX2.out.bel.size)⟩
      clear hb3 HX2
      go_wp2_with fail
      refine (bsum_any a0 n cap0 m w3 HX3.out.b hnil (by omega) hncm (by omega) (HTab.out.later HX3.out.bel)).mono ?_
      rintro e w9 ⟨rfl, hb9⟩
      rw [HBe.out]
      have HW9 : Hid (Below w.heap.size w w9) := HX3.out.bel.trans (hb9.mono HX3.out.bel.size)
      clear hb9 HX3
      have q9 := arr_eq w9 25 32 B B hB hB Tryd.underlying25
      rw [decide_eq_true rfl] at q9
      go_wp2
      go_ret
      exact ⟨rfl, HW9.out⟩
end Go.Proofs.YtfalekfddeaioaaDoor.blakeBytes
