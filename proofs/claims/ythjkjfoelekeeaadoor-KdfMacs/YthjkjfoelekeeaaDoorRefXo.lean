/- The walk over the document's Xor: whose memory it answers. -/
import Derived.Test.YthjkjfoelekeeaaDoorRefX
import Derived.Test.YthjkjfoelekeeaaDoorBase
namespace Go.Proofs.YthjkjfoelekeeaaDoor
set_option linter.unusedVariables false
open Go.RowKit

set_option maxHeartbeats 400000 in
set_option maxRecDepth 100000 in
theorem refXor_own (a b : Option Addr) (len cap lenb capb : Nat) (l m : List UInt8) (w : World) (hA : Byt w a len l) (hB : Byt w b lenb m) (hla : len ≤ 1000000) (hlb : lenb ≤ 1000000) :
    Calls Tryd.prog 17 #[.slice a len cap, .slice b lenb capb] w fun e w' => ∃ v, e = .returned v ∧ Below w.heap.size w w' ∧ w'.ownsRow w.heap.size 5 1 v (min len lenb) ((xorB l m).map bv) := by
  obtain ⟨n, hn⟩ : ∃ n, n = min len lenb := ⟨_, rfl⟩
  rw [← hn]
  have Hn : Hid (n = min len lenb) := hn
  have hn1 : n ≤ len := by omega
  have hn2 : n ≤ lenb := by omega
  have hn3 : len ≤ n ∨ lenb ≤ n := by omega
  clear hn
  go_enter Tryd.func17, Tryd.ntmps17
  go_wp2
  go_loopw [5, 6] (fun v i wr => ∃ (k : Nat) (v' : Value), k ≤ n ∧ i = .int .i64 k ∧ v' = v ∧ Hid (wr.ownsRow w.heap.size 5 1 v' k (((xorB l m).take k).map bv)) ∧ Below w.heap.size w wr) (fun _ i _ => n - (intOf i).toNat)
  case atStart =>
    exact ⟨0, _, Nat.zero_le _, rfl, rfl, World.ownsRow_made w #[] 0 (Nat.le_refl _) (Nat.zero_le _) rfl, (Below.refl _ _).alloc (Nat.le_refl _) _⟩
  case round =>
    obtain ⟨k, v, hk, rfl, hv, hown, hbel⟩ := hrel
    subst hv
    have hlA := hA.1
    have hlB := hB.1
    by_cases hlt : k < n
    · rcases hA.2 with h0 | ⟨ba, offa, rfl, hca⟩
      · omega
      rcases hB.2 with h0 | ⟨bb, offb, rfl, hcb⟩
      · omega
      have hca' := hca k (by omega)
      have hcb' := hcb k (by omega)
      have hba := World.block_lt_of_cell? w _ hca'
      have hbb := World.block_lt_of_cell? w _ hcb'
      have i1 : (k : Int) < (len : Int) := by omega
      have i2 : (k : Int) < (lenb : Int) := by omega
      go_wp2
      refine wp_region_sched' (G := Below w.heap.size) (by kernel_rfl) (Below.refl _) (fun _ _ _ => Below.trans) (by kernel_rfl) [(0, true), (1, true), (2, true), (3, true), (4, true), (5, true), (6, true), (7, true), (8, true), (9, true), (10, true), (11, true), (12, true), (13, true), (14, true), (15, true), (16, true), (17, true), (18, true), (19, true), (20, false), (21, false), (22, true)] rfl (by kernel_rfl) ?_
      intro KK hKK
      have hwr : Below w.heap.size w wr.drew := hbel.drew
      obtain ⟨W, hW⟩ : ∃ W, wr.drew = W := ⟨_, rfl⟩
      rw [hW]
      rw [hW] at hwr
      have hld1 : ∀ w', Below w.heap.size W w' → w'.cell? ⟨ba, offa + k, none⟩ = some (.int .u8 ((at8 l k).toNat : Int)) := fun w' h => by
        rw [(hwr.trans h).cell (p := ⟨ba, offa + k, none⟩) hba]; exact hca'
      have hld2 : ∀ w', Below w.heap.size W w' → w'.cell? ⟨bb, offb + k, none⟩ = some (.int .u8 ((at8 m k).toNat : Int)) := fun w' h => by
        rw [(hwr.trans h).cell (p := ⟨bb, offb + k, none⟩) hbb]; exact hcb'
      iterate 20 (refine sched_take rfl (by rfl) (v := ?_) ?_ ?_; rotate_left; (intro w' hw'; have q1 := hld1 w' hw'; have q2 := hld2 w' hw'; go_simp; with_reducible rfl); go_simp)
      have hownW : W.ownsRow w.heap.size 5 1 v k (((xorB l m).take k).map bv) := by rw [← hW]; exact hown.out
      have hone : Byt (W.alloc (.cells #[bv (at8 l k ^^^ at8 m k)] 5)) (some ⟨W.heap.size, 0, none⟩) 1 [at8 l k ^^^ at8 m k] := byt_lit _ [_] W.heap.size _ _ _ (heap_alloc_new W _) rfl
      obtain ⟨v2, w2, hap, hs2, hgr⟩ := append_bytes (W.alloc (.cells #[bv (at8 l k ^^^ at8 m k)] 5)) w.heap.size v k _ (hownW.alloc _) ⟨W.heap.size, 0, none⟩ 1 1 _ hone (by have := hwr.size; simp; omega) (by omega)
      have hG2 : Below w.heap.size (W.alloc (.cells #[bv (at8 l k ^^^ at8 m k)] 5)) w2 := (Below.refl _ _).grown hgr (by have := hwr.size; simp; omega) (fun j hj => (hownW.lt j hj).1)
      refine sched_val rfl (by rfl) (v := .slice (some ⟨W.heap.size, 0, none⟩) 1 1) (w' := W.alloc (.cells #[bv (at8 l k ^^^ at8 m k)] 5)) ?_ ((Below.refl _ _).alloc hwr.size _) ?_
      · rw [bv, ← or_sub_and]
        go_simp
      · refine sched_append rfl (by rfl) rfl (by rfl) (by rfl) hap hG2 ?_
        go_simp
        refine sched_take rfl (by rfl) (v := ?_) ?_ ?_
        rotate_left
        · intro w' hw'; go_simp; with_reducible rfl
        go_simp
        have hb2 : Below w.heap.size w w2 := hwr.trans (((Below.refl _ _).alloc hwr.size _).trans hG2)
        have hs3 : Hid (w2.ownsRow w.heap.size 5 1 v2 (k + 1) (((xorB l m).take (k + 1)).map bv)) := by
          rw [take_at _ _ (by rw [xorB_length]; omega), xorB_at _ _ _ (by omega) (by omega)]
          exact hs2
        clear hs2 hap hgr hld1 hld2 hownW hca hcb hG2 hone hown
        refine sched_done hKK ?_
        go_wp2
        exact ⟨⟨k + 1, v2, by omega, by go_num, rfl, hs3, hb2⟩, by simp [intOf]; omega⟩
    · have ek : k = n := by omega
      subst ek
      have hf := hown.out
      rw [List.take_of_length_le (by rw [xorB_length, hlA, hlB, ← Hn.out]; exact Nat.le_refl _)] at hf
      have HF : Hid (wr.ownsRow w.heap.size 5 1 v k ((xorB l m).map bv)) := hf
      clear hf hown
      by_cases hk2 : (k : Int) < (len : Int)
      · have hk3 : ¬ (k : Int) < (lenb : Int) := by omega
        go_wp2
        go_ret
        exact ⟨v, rfl, hbel, HF.out⟩
      · go_wp2
        go_ret
        exact ⟨v, rfl, hbel, HF.out⟩
end Go.Proofs.YthjkjfoelekeeaaDoor
