/- BlakeEdges: at the edges of parts sums are what the document says. For every byte and number, where the program's tables are as its text lays them. -/
import Derived.Test.YtfalekfddeaioaaDoorBlkShown
import Derived.Test.YtfalekfddeaioaaDoorRefBd
namespace Go.Proofs.YtfalekfddeaioaaDoor.blakeEdges
open Go.ChangeShapes Go.WideShapes Go.ChangeAt Go.RowKit
set_option linter.unusedVariables false

theorem u8_byte (a : Int) (h : (Lit.int .u8 a).wf = true) : ∃ c : UInt8, a = (c.toNat : Int) := by
  have hb : 0 ≤ a ∧ a ≤ 255 := by simpa [Lit.wf, IntKind.min, IntKind.max, IntKind.signed, IntKind.bits] using h
  exact ⟨UInt8.ofNat a.toNat, by simp; omega⟩
theorem arr_own {w : World} {base g n : Nat} {e : TypeId} {l : List UInt8} (h : w.ownsRow base e 1 (.slice (some ⟨g, 0, none⟩) n n) n (l.map bv)) : Arr w g e l := by
  rcases h.2 with ⟨e1, _⟩ | ⟨g', cap, cur, e1, _, hg, _, _, hcs, ht⟩
  · cases e1
  · cases e1
    unfold Arr
    rw [hg]
    have : cur = (l.map bv).toArray := by
      rw [← ht, List.take_of_length_le (by simp [hcs])]
    rw [this]
def fillK (c : UInt8) (q k : Nat) : List UInt8 := List.replicate k c ++ List.replicate (q - k) 0
theorem fillK_step (c : UInt8) (q k : Nat) (hk : k < q) : (fillK c q k).set k c = fillK c q (k + 1) := by
  unfold fillK
  rw [List.set_append_right _ _ (by simp), List.length_replicate, Nat.sub_self, show q - k = (q - (k + 1)) + 1 by omega, List.replicate_succ, List.set_cons_zero, List.replicate_succ']
  simp
theorem fillK_length (c : UInt8) (q k : Nat) (hk : k ≤ q) : (fillK c q k).length = q := by simp [fillK]; omega

set_option maxHeartbeats 2000000 in
set_option maxRecDepth 100000 in
theorem walk (a0 a1 : Int) (w : World) (w0 : (Lit.int .u8 a0).wf = true) (w1 : (Lit.int .i64 a1).wf = true) (htab : Tab w) :
    Calls Tryd.prog 5 #[.int .u8 a0, .int .i64 a1] w fun e w' => e = .returned (.bool true) ∧ Below w.heap.size w w' := by
  obtain ⟨c, rfl⟩ := u8_byte a0 w0
  obtain ⟨q, hq0, hqn⟩ := cut16 a1 260
  have hq : (bits .and .i64 a1 65535).tmod 261 = (q : Int) := hq0
  have HTab : Hid (Tab w) := htab
  clear hq0 w0 w1 htab
  go_enter Tryd.func5, Tryd.ntmps5
  go_wp2_with fail
  refine (blkShown_any _ HTab.out).mono ?_
  rintro e w4 ⟨rfl, hb4⟩
  have HW4 : Hid (Below w.heap.size w w4) := hb4
  clear hb4
  obtain ⟨w6, hmk, hown6, hb6⟩ := make_full w4 q (by omega)
  have hz : List.replicate q (Value.int .u8 0) = (fillK c q 0).map bv := by simp [fillK, bv]
  rw [hz] at hown6
  have HA6 : Hid (Arr w6 w4.heap.size 5 (fillK c q 0)) := arr_own hown6
  have HW6 : Hid (Below w.heap.size w w6) := HW4.out.trans (hb6.mono HW4.out.size)
  have hgw : w.heap.size ≤ w4.heap.size := HW4.out.size
  clear hown6 hb6 hz HW4
  go_wp2
  clear hmk
  generalize w4.heap.size = g at HA6 hgw ⊢
  go_loopw [7] (fun i wr => ∃ k : Nat, k ≤ q ∧ i = .int .i64 k ∧ Hid (Arr wr g 5 (fillK c q k)) ∧ Hid (Below w.heap.size w wr)) (fun i _ => q - (intOf i).toNat)
  case atStart => exact ⟨0, Nat.zero_le _, rfl, HA6, HW6⟩
  case round =>
    clear HA6 HW6
    obtain ⟨k, hk, rfl, HA, HW⟩ := hrel
    by_cases hlt : k < q
    · have i1 : (k : Int) < (q : Int) := by omega
      obtain ⟨cc, fr⟩ := HA.out.at_ k (by rw [fillK_length _ _ _ hk]; omega)
      have hA2 := HA.out.set k c
      rw [fillK_step c q k hlt] at hA2
      have HA2 : Hid (Arr (wr.setCell ⟨g, k, none⟩ (.int .u8 (c.toNat : Int))) g 5 (fillK c q (k + 1))) := hA2
      have HW2 : Hid (Below w.heap.size w (wr.setCell ⟨g, k, none⟩ (.int .u8 (c.toNat : Int)))) := HW.out.setCell hgw _
      clear hA2 HA HW
      go_wp2
      exact ⟨⟨k + 1, by omega, by go_num, HA2, HW2⟩, by simp [intOf]; omega⟩
    · have ek : k = q := by omega
      have hkr : ¬ (k : Int) < (q : Int) := by omega
      obtain ⟨m, hm⟩ : ∃ m, fillK c q k = m := ⟨_, rfl⟩
      have hml : m.length = q := by rw [← hm]; exact fillK_length _ _ _ hk
      rw [hm] at HA
      have HB4 : Hid (Byt wr (some ⟨g, 0, none⟩) q m) := HA.out.byt q hml
      clear HA hm
      go_wp2_with fail
      refine (bsum_any (some ⟨g, 0, none⟩) q q m _ HB4.out (fun e => by cases e) (Nat.le_refl _) (by unfold maxLen; omega) (by omega) (HTab.out.later HW.out)).mono ?_
      rintro e w5 ⟨rfl, hb5⟩
      have hB := blakeB_length m
      obtain ⟨B, hBe⟩ : ∃ B, blakeB m = B := ⟨_, rfl⟩
      rw [hBe] at hB ⊢
      have HBe : Hid (blakeB m = B) := hBe
      have hst := run_store_arr w5 25 B 32 hB (by kernel_rfl)
      obtain ⟨W5, hW5⟩ : ∃ W5, w5.alloc (.cells (B.map bv).toArray 25) = W5 := ⟨_, rfl⟩
      have hgr5 : Below wr.heap.size wr W5 := by rw [← hW5]; exact hb5.alloc hb5.size _
      have hX5 : Arr W5 w5.heap.size 25 B := by rw [← hW5]; exact Arr.new w5 _ _
      have hdr : Below W5.heap.size W5 W5.drew := (Below.refl _ _).drew
      have HXW : Hid (Byt W5.drew (some ⟨w5.heap.size, 0, none⟩) 32 B) := (hX5.byt 32 hB).later hdr
      have HWW : Hid (Below w.heap.size w W5.drew) := (HW.out.trans (hgr5.mono HW.out.size)).drew
      have HBW : Hid (Byt W5.drew (some ⟨g, 0, none⟩) q m) := (HB4.out.later hgr5).later hdr
      rw [hW5] at hst
      clear hb5 hBe hgr5 HW HB4 hW5 hX5 hdr
      go_wp2
      clear hst
      generalize w5.heap.size = xb at HXW ⊢
      refine wp_region_sched' (G := Grows) (by kernel_rfl) Grows.refl Grows.trans (by kernel_rfl) [(0, true), (1, true), (2, true), (3, true), (4, true), (5, false), (6, true), (7, true), (8, true), (9, true)] rfl (by kernel_rfl) ?_
      intro KK hKK
      generalize W5.drew = W at HXW HWW HBW ⊢
      have hS1 := S_beq B B
      iterate 5 (refine sched_take rfl (by rfl) (v := ?_) ?_ ?_; rotate_left; (intro w' hw'; have q1 := conv_bytes w' (some ⟨xb, 0, none⟩) 32 32 B (HXW.out.on hw'); go_simp; with_reducible rfl); go_simp)
      refine sched_call (f := 10) (args := #[.slice (some ⟨g, 0, none⟩) q q]) rfl (by rfl) (by go_simp) ?_
      refine (refSumB_any (some ⟨g, 0, none⟩) q q m _ HBW.out (fun e => by cases e) (by omega) (Nat.le_refl _)).mono ?_
      rintro e w7 ⟨a7, c7, rfl, hb7, hB7, _⟩
      refine ⟨_, rfl, hb7, ?_⟩
      rw [HBe.out] at hB7
      have HB7 : Hid (Byt w7 a7 32 B) := Byt.ofSeg hB7
      have HW7 : Hid (Below w.heap.size w w7) := HWW.out.trans (hb7.mono HWW.out.size)
      clear hb7 hB7 HWW HBW HXW
      go_simp
      iterate 4 (refine sched_take rfl (by rfl) (v := ?_) ?_ ?_; rotate_left; (intro w' hw'; have q1 := conv_bytes w' a7 32 c7 B (HB7.out.on hw'); go_simp; with_reducible rfl); go_simp)
      refine sched_done hKK ?_
      go_wp2
      go_ret
      exact ⟨rfl, HW7.out⟩
end Go.Proofs.YtfalekfddeaioaaDoor.blakeEdges
