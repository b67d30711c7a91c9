/- The walks over the document's Mac and Derive (kdf). -/
import Derived.Test.YthjkjfoelekeeaaDoorRefBd
import Derived.Test.YthjkjfoelekeeaaDoorRefXo
import Derived.Test.YthjkjfoelekeeaaDoorMathKdf
namespace Go.Proofs.YthjkjfoelekeeaaDoor
set_option linter.unusedVariables false
open Go.RowKit

theorem replicate_snoc (n : Nat) (c : UInt8) : List.replicate n c ++ [c] = List.replicate (n + 1) c := by rw [List.replicate_succ']
set_option maxHeartbeats 400000 in
theorem refAll_any (c : UInt8) (w : World) :
    Calls Tryd.prog 18 #[.int .u8 (c.toNat : Int)] w fun e w' => ∃ v, e = .returned v ∧ Below w.heap.size w w' ∧ w'.ownsRow w.heap.size 5 1 v 64 ((allB c).map bv) := by
  go_enter Tryd.func18, Tryd.ntmps18
  go_wp2
  go_loopw [3, 4] (fun v i wr => ∃ (k : Nat) (v' : Value), k ≤ 64 ∧ i = .int .i64 k ∧ v' = v ∧ Hid (wr.ownsRow w.heap.size 5 1 v' k ((List.replicate k c).map bv)) ∧ Hid (Below w.heap.size w wr)) (fun _ i _ => 64 - (intOf i).toNat)
  case atStart => exact ⟨0, _, by omega, rfl, rfl, World.ownsRow_made w #[] 0 (Nat.le_refl _) (Nat.zero_le _) rfl, (Below.refl _ _).alloc (Nat.le_refl _) _⟩
  case round =>
    obtain ⟨k, v, hk, rfl, hv, hO, hW⟩ := hrel
    subst hv
    by_cases hlt : k < 64
    · have hki : (k : Int) < 64 := by omega
      have hone : Byt (wr.alloc (.cells #[.int .u8 (c.toNat : Int)] 5)) (some ⟨wr.heap.size, 0, none⟩) 1 [c] := byt_lit _ [c] wr.heap.size _ _ _ (heap_alloc_new wr _) rfl
      obtain ⟨v4, w4, hap4, own4, hg4⟩ := append_bytes (wr.alloc (.cells #[.int .u8 (c.toNat : Int)] 5)) w.heap.size v k _ (hO.out.alloc _) ⟨wr.heap.size, 0, none⟩ 1 1 [c] hone (by have := hW.out.size; simp; omega) (by omega)
      rw [replicate_snoc] at own4
      have HO4 : Hid (w4.ownsRow w.heap.size 5 1 v4 (k + 1) ((List.replicate (k + 1) c).map bv)) := own4
      have HW4 : Hid (Below w.heap.size w w4) := (hW.out.alloc hW.out.size _).grown hg4 (by have := hW.out.size; simp; omega) (fun j hj => (hO.out.lt j hj).1)
      have HA4 : Hid ((Builtin.append_ #[22, 22] 22 #[v, .slice (some ⟨wr.heap.size, 0, none⟩) 1 1]).run Tryd.prog (wr.alloc (.cells #[.int .u8 (c.toNat : Int)] 5)) = .ok v4 w4) := hap4
      clear hap4 own4 hg4 hone hO hW
      go_wp2_with (at_builtin; refine wpList_append_run rfl (.tmp 10) (.tmp 12) 22 rfl _ _ _ _ rfl rfl HA4.out ?_)
      exact ⟨⟨k + 1, v4, by omega, by go_num, rfl, HO4, HW4⟩, by simp [intOf]; omega⟩
    · have ek : k = 64 := by omega
      have hki : ¬ (k : Int) < 64 := by omega
      have HO4 : Hid (wr.ownsRow w.heap.size 5 1 v 64 ((allB c).map bv)) := by rw [ek] at hO; exact hO
      clear hO
      go_wp2
      go_ret
      exact ⟨v, rfl, hW.out, HO4.out⟩

/-- A key, while 0s are laid behind it. -/
structure KP (w : World) (a : Option Addr) (n cap : Nat) (l : List UInt8) (W : World) : Prop where
  seg : Seg W 5 a n cap (l.map bv)
  isnew : ∀ j, blockOf a = some j → w.heap.size ≤ j
  bel : Below w.heap.size w W
theorem KP.app {w W : World} {a : Option Addr} {n cap : Nat} {l : List UInt8} (t : KP w a n cap l W) (hn : n ≤ 1000) :
    ∃ a' cap' w2, (Builtin.append_ #[22, 22] 22 #[.slice a n cap, .slice (some ⟨W.heap.size, 0, none⟩) 1 1]).run Tryd.prog (W.alloc (.cells #[.int .u8 0] 5)) = .ok (.slice a' (n + 1) cap') w2 ∧ KP w a' (n + 1) cap' (l ++ [0]) w2 := by
  obtain ⟨i0, hi, hz0, hz1, hz2⟩ := info_parts Tryd.infoU8
  obtain ⟨a', cap', w2, hap, hs2, hgr, hfr, hsz2⟩ := append_seg (P := Tryd.prog) 22 22 5 i0 (.int .u8 0) 1 Tryd.underlying22 hi hz0 hz1 hz2 rfl W a n cap _ t.seg (bv 0) rfl (by unfold maxLen; omega) (by omega)
  refine ⟨a', cap', w2, hap, by rw [List.map_append]; exact hs2, ?_, t.bel.grown hgr t.bel.size t.isnew⟩
  intro j hj
  rcases hfr with e | e
  · exact t.isnew j (by rw [← e]; exact hj)
  · have := e j hj; have := t.bel.size; omega
theorem Seg.cap_le {w : World} {e : TypeId} {a : Option Addr} {n cap : Nat} {vs : List Value} (h : Seg w e a n cap vs) : n ≤ cap := by
  rcases h.2 with ⟨_, h1, h2⟩ | ⟨_, _, _, _, _, _, h0, _⟩ <;> omega
end Go.Proofs.YthjkjfoelekeeaaDoor
