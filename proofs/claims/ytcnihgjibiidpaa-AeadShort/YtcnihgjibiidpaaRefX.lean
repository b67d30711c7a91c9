/- The walk over the document's Xor. -/
import Derived.Test.YtcnihgjibiidpaaRefs
namespace Go.Proofs.Ytcnihgjibiidpaa
set_option linter.unusedVariables false
open Go.RowKit
theorem or_sub_and (x y : UInt8) : (IntKind.u8.wrap (bits .or .u8 (x.toNat : Int) (y.toNat : Int) - bits .and .u8 (x.toNat : Int) (y.toNat : Int))) = ((x ^^^ y).toNat : Int) := by
  have hx := x.toNat_lt
  have hy := y.toNat_lt
  have e1 : x.toNat ||| y.toNat = (x.toNat ^^^ y.toNat) + (x.toNat &&& y.toNat) := by
    have hz : (x.toBitVec ^^^ y.toBitVec) &&& (x.toBitVec &&& y.toBitVec) = 0#8 := by
      apply BitVec.eq_of_getLsbD_eq
      intro i hi
      simp only [BitVec.getLsbD_and, BitVec.getLsbD_xor, BitVec.getLsbD_zero]
      cases x.toBitVec.getLsbD i <;> cases y.toBitVec.getLsbD i <;> rfl
    have ho : (x.toBitVec ^^^ y.toBitVec) ||| (x.toBitVec &&& y.toBitVec) = x.toBitVec ||| y.toBitVec := by
      apply BitVec.eq_of_getLsbD_eq
      intro i hi
      simp only [BitVec.getLsbD_and, BitVec.getLsbD_xor, BitVec.getLsbD_or]
      cases x.toBitVec.getLsbD i <;> cases y.toBitVec.getLsbD i <;> rfl
    have hs := BitVec.add_eq_or_of_and_eq_zero _ _ hz
    have h1 : (x.toNat ^^^ y.toNat) ||| (x.toNat &&& y.toNat) = x.toNat ||| y.toNat := by
      have := congrArg BitVec.toNat ho
      simpa using this
    have h2 := congrArg BitVec.toNat hs
    rw [BitVec.toNat_add] at h2
    simp only [BitVec.toNat_xor, BitVec.toNat_and, BitVec.toNat_or, UInt8.toNat_toBitVec] at h2
    have b1 : x.toNat ||| y.toNat < 2 ^ 8 := Nat.or_lt_two_pow hx hy
    rw [h1] at h2
    have b2 : (x.toNat ^^^ y.toNat) < 2 ^ 8 := Nat.xor_lt_two_pow hx hy
    have b3 : (x.toNat &&& y.toNat) < 2 ^ 8 := Nat.and_lt_two_pow _ hy
    have b4 : (x.toNat ^^^ y.toNat) ≤ x.toNat ||| y.toNat := by rw [← h1]; exact Nat.left_le_or
    have b5 : (x.toNat &&& y.toNat) ≤ x.toNat ||| y.toNat := by rw [← h1]; exact Nat.right_le_or
    omega
  rw [u8_or_nat _ _ hx hy, u8_and_nat _ _ hx hy, e1, UInt8.toNat_xor, IntKind.wrap_u8']
  have b2 : (x.toNat ^^^ y.toNat) < 2 ^ 8 := Nat.xor_lt_two_pow hx hy
  omega

set_option maxHeartbeats 400000 in
set_option maxRecDepth 100000 in
theorem refXor_any (a b : Option Addr) (len cap lenb capb : Nat) (l m : List UInt8) (w : World) (hA : Byt w a len l) (hB : Byt w b lenb m) (hla : len ≤ 1000000) (hlb : lenb ≤ 1000000) :
    Calls Try.prog 54 #[.slice a len cap, .slice b lenb capb] w fun e w' => ∃ a' cap', e = .returned (.slice a' (min len lenb) cap') ∧ Below w.heap.size w w' ∧ Byt w' a' (min len lenb) (xorB l m) := by
  obtain ⟨n, hn⟩ : ∃ n, n = min len lenb := ⟨_, rfl⟩
  rw [← hn]
  have Hn : Hid (n = min len lenb) := hn
  have hn1 : n ≤ len := by omega
  have hn2 : n ≤ lenb := by omega
  have hn3 : len ≤ n ∨ lenb ≤ n := by omega
  clear hn
  go_enter Try.func54, Try.ntmps54
  go_wp2
  go_loopw [5, 6] (fun v i wr => ∃ (k : Nat) (a' : Option Addr) (cap' : Nat), k ≤ n ∧ i = .int .i64 k ∧ v = .slice a' k cap' ∧ Seg wr 5 a' k cap' (((xorB l m).take k).map bv) ∧ (∀ j, blockOf a' = some j → w.heap.size ≤ j) ∧ Below w.heap.size w wr) (fun _ i _ => n - (intOf i).toNat)
  case atStart =>
    exact ⟨0, some ⟨w.heap.size, 0, none⟩, 0, Nat.zero_le _, rfl, rfl, ⟨rfl, .inr ⟨w.heap.size, 0, #[], rfl, heap_alloc_new w _, by simp, Nat.le_refl _, fun i hi => by omega⟩⟩, by intro j hj; simp [blockOf] at hj; omega, (Below.refl _ _).alloc (Nat.le_refl _) _⟩
  case round =>
    obtain ⟨k, a', cap', hk, rfl, rfl, hseg, hbl, hbel⟩ := hrel
    have hlA := hA.1
    have hlB := hB.1
    by_cases hlt : k < n
    · rcases hA.2 with h0 | ⟨ba, offa, rfl, hca⟩
      · omega
      rcases hB.2 with h0 | ⟨bb, offb, rfl, hcb⟩
      · omega
      have hca' := hca k (by omega)
      have hcb' := hcb k (by omega)
      have hba := World.block_lt_of_cell? w _ hca'
      have hbb := World.block_lt_of_cell? w _ hcb'
      have i1 : (k : Int) < (len : Int) := by omega
      have i2 : (k : Int) < (lenb : Int) := by omega
      go_wp2
      refine wp_region_sched' (G := Below w.heap.size) (by kernel_rfl) (Below.refl _) (fun _ _ _ => Below.trans) (by kernel_rfl) [(0, true), (1, true), (2, true), (3, true), (4, true), (5, true), (6, true), (7, true), (8, true), (9, true), (10, true), (11, true), (12, true), (13, true), (14, true), (15, true), (16, true), (17, true), (18, true), (19, true), (20, false), (21, false), (22, true)] rfl (by kernel_rfl) ?_
      intro KK hKK
      have hwr : Below w.heap.size w wr.drew := hbel.drew
      obtain ⟨W, hW⟩ : ∃ W, wr.drew = W := ⟨_, rfl⟩
      rw [hW]
      rw [hW] at hwr
      have hld1 : ∀ w', Below w.heap.size W w' → w'.cell? ⟨ba, offa + k, none⟩ = some (.int .u8 ((at8 l k).toNat : Int)) := fun w' h => by
        rw [(hwr.trans h).cell (p := ⟨ba, offa + k, none⟩) hba]; exact hca'
      have hld2 : ∀ w', Below w.heap.size W w' → w'.cell? ⟨bb, offb + k, none⟩ = some (.int .u8 ((at8 m k).toNat : Int)) := fun w' h => by
        rw [(hwr.trans h).cell (p := ⟨bb, offb + k, none⟩) hbb]; exact hcb'
      iterate 20 (refine sched_take rfl (by rfl) (v := ?_) ?_ ?_; rotate_left; (intro w' hw'; have q1 := hld1 w' hw'; have q2 := hld2 w' hw'; go_simp; with_reducible rfl); go_simp)
      have hsegW : Seg W 5 a' k cap' (((xorB l m).take k).map bv) := hseg.kept fun g _ => by rw [← hW]; rfl
      have hsz : W.heap.size = wr.heap.size := by rw [← hW]; rfl
      obtain ⟨i0, hi, hz0, hz1, hz2⟩ := info_parts Try.infoU8
      obtain ⟨a2, cap2, w2, hap, hs2, hgr, hfr, hsz2⟩ := append_seg (P := Try.prog) 24 24 5 i0 (.int .u8 0) 1 Try.underlying24 hi hz0 hz1 hz2 rfl W a' k cap' _ hsegW (bv (at8 l k ^^^ at8 m k)) rfl (by unfold maxLen; omega) (by omega)
      refine sched_val rfl (by rfl) (v := .slice (some ⟨W.heap.size, 0, none⟩) 1 1) (w' := W.alloc (.cells #[bv (at8 l k ^^^ at8 m k)] 5)) ?_ ((Below.refl _ _).alloc hwr.size _) ?_
      · rw [bv, ← or_sub_and]
        go_simp
      · refine sched_append rfl (by rfl) rfl (by rfl) (by rfl) hap (below_append hgr hsz2 hwr.size hbl _) ?_
        go_simp
        refine sched_take rfl (by rfl) (v := ?_) ?_ ?_
        rotate_left
        · intro w' hw'; go_simp; with_reducible rfl
        go_simp
        have hb2 : Below w.heap.size w w2 := hwr.trans (((Below.refl _ _).alloc hwr.size _).trans (below_append hgr hsz2 hwr.size hbl (.cells #[bv (at8 l k ^^^ at8 m k)] 5)))
        have hs3 : Hid (Seg w2 5 a2 (k + 1) cap2 (((xorB l m).take (k + 1)).map bv)) := by
          rw [take_at _ _ (by rw [xorB_length]; omega), xorB_at _ _ _ (by omega) (by omega), List.map_append]
          exact hs2
        have hbl2 : Hid (∀ j, blockOf a2 = some j → w.heap.size ≤ j) := by
          intro j hj
          rcases hfr with e | e
          · exact hbl j (by rw [← e]; exact hj)
          · have := e j hj; have := hwr.size; omega
        clear hs2 hfr hap hgr hld1 hld2 hsegW hca hcb
        refine sched_done hKK ?_
        go_wp2
        exact ⟨⟨k + 1, a2, cap2, by omega, by go_num, rfl, hs3.out, hbl2.out, hb2⟩, by simp [intOf]; omega⟩
    · have ek : k = n := by omega
      subst ek
      by_cases hk2 : (k : Int) < (len : Int)
      · have hk3 : ¬ (k : Int) < (lenb : Int) := by omega
        go_wp2
        go_ret
        refine ⟨a', ⟨cap', rfl⟩, hbel, ?_⟩
        have hf := Byt.ofSeg hseg
        rwa [List.take_of_length_le (by rw [xorB_length, hlA, hlB, ← Hn.out]; exact Nat.le_refl _)] at hf
      · go_wp2
        go_ret
        refine ⟨a', ⟨cap', rfl⟩, hbel, ?_⟩
        have hf := Byt.ofSeg hseg
        rwa [List.take_of_length_le (by rw [xorB_length, hlA, hlB, ← Hn.out]; exact Nat.le_refl _)] at hf
end Go.Proofs.Ytcnihgjibiidpaa
