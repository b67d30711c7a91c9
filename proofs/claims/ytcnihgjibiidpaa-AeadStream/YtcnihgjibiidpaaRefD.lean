/- The walks over the document's words and block. -/
import Derived.Test.YtcnihgjibiidpaaRefC
namespace Go.Proofs.Ytcnihgjibiidpaa
set_option linter.unusedVariables false
open Go.RowKit

theorem Try.infoU64 : (Try.prog.info? 33).map (fun i => (i.zero, i.size, i.bytes)) = some (some (.int .u64 0), 1, 8) := by kernel_rfl

set_option maxHeartbeats 400000 in
set_option maxRecDepth 100000 in
theorem refWords_any (b off m cap : Nat) (l : List UInt8) (w : World) (hc : 4 * m ≤ cap) (hm : cap ≤ 1000000) (hB : Byt w (some ⟨b, off, none⟩) (4 * m) l) :
    Calls Try.prog 60 #[.slice (some ⟨b, off, none⟩) (4 * m : Nat) cap] w fun e w' => ∃ a' cap', e = .returned (.slice a' m cap') ∧ Below w.heap.size w w' ∧ Seg w' 33 a' m cap' ((wordsTo l m).map wv) ∧ ∀ j, blockOf a' = some j → w.heap.size ≤ j := by
  obtain ⟨L, hL⟩ : ∃ L, 4 * m = L := ⟨_, rfl⟩
  rw [hL] at hB hc ⊢
  go_enter Try.func60, Try.ntmps60
  go_wp2
  go_loopw [3, 4] (fun v i wr => ∃ (k : Nat) (a' : Option Addr) (cap' : Nat), k ≤ m ∧ i = .int .i64 ((4 * k : Nat) : Int) ∧ v = .slice a' k cap' ∧ Seg wr 33 a' k cap' ((wordsTo l k).map wv) ∧ (∀ j, blockOf a' = some j → w.heap.size ≤ j) ∧ Below w.heap.size w wr) (fun _ i _ => 4 * m - (intOf i).toNat)
  case atStart =>
    exact ⟨0, some ⟨w.heap.size, 0, none⟩, 0, Nat.zero_le _, rfl, rfl, ⟨rfl, .inr ⟨w.heap.size, 0, #[], rfl, heap_alloc_new w _, by simp, Nat.le_refl _, fun i hi => by omega⟩⟩, by intro j hj; simp [blockOf] at hj; omega, (Below.refl _ _).alloc (Nat.le_refl _) _⟩
  case round =>
    obtain ⟨k, a', cap', hk, rfl, rfl, hseg, hbl, hbel⟩ := hrel
    by_cases hlt : k < m
    · obtain ⟨p, hp⟩ : ∃ p, 4 * k = p := ⟨_, rfl⟩
      have hB2 : Byt wr (some ⟨b, off, none⟩) L l := by
        refine ⟨hB.1, ?_⟩
        rcases hB.2 with h0 | ⟨b', off', e, hc'⟩
        · exact .inl h0
        · refine .inr ⟨b', off', e, fun i hi => ?_⟩
          have := hc' i hi
          rw [hbel.cell (p := ⟨b', off' + i, none⟩) (World.block_lt_of_cell? w _ this)]
          exact this
      have HB2 : Hid (Byt wr (some ⟨b, off, none⟩) L l) := hB2
      have HWd : Hid ((getV l false p 4 : Int) = ((wordAt l k).toNat : Int)) := by show _ = _; rw [wordAt_val, hp]
      rw [hp]
      have i1 : (p : Int) + 4 ≤ (L : Int) := by omega
      obtain ⟨i0, hi, hz0, hz1, hz2⟩ := info_parts Try.infoU64
      obtain ⟨a3, cap3, w3, hap3, hs3, hgr3, hfr3, hsz3⟩ := append_seg (P := Try.prog) 87 87 33 i0 (.int .u64 0) 8 Try.underlying87 hi hz0 hz1 hz2 rfl wr a' k cap' _ hseg (.int .u64 ((wordAt l k).toNat : Int)) rfl (by unfold maxLen; omega) (by omega)
      have HA3 : Hid (_) := hap3
      have HS3 : Hid (Seg w3 33 a3 (k + 1) cap3 ((wordsTo l (k + 1)).map wv)) := by
        rw [wordsTo_succ, List.map_append]; exact hs3
      have HB3 : Hid (∀ j, blockOf a3 = some j → w.heap.size ≤ j) := by
        intro j hj
        rcases hfr3 with e | e
        · exact hbl j (by rw [← e]; exact hj)
        · have := e j hj; have := hbel.size; omega
      have hb3 : Below w.heap.size w w3 := hbel.grown hgr3 hbel.size hbl
      clear hap3 hs3 hgr3 hfr3 hB2
      go_wp2_with fail
      refine (refGet_yes b off L cap p 4 false l wr (by unfold maxLen; omega) hc HB2.out (by omega) (by omega) (by omega)).mono ?_
      rintro e w' ⟨rfl, rfl⟩
      rw [HWd.out]
      go_wp2_with (at_builtin; refine wpList_append_run rfl (.tmp 21) (.tmp 23) 87 rfl _ _ _ _ rfl rfl HA3.out ?_)
      exact ⟨⟨k + 1, a3, cap3, by omega, by go_num, rfl, HS3.out, HB3.out, hb3⟩, by simp [intOf]; omega⟩
    · have ek : k = m := by omega
      subst ek
      have i1 : ¬ ((4 * k : Nat) : Int) + 4 ≤ (L : Int) := by omega
      go_wp2
      go_ret
      exact ⟨a', cap', rfl, hbel, hseg, hbl⟩
end Go.Proofs.Ytcnihgjibiidpaa
