/- The walks over the program's tell, closed and multiplier. -/
import Derived.Test.YtcnihgjibiidpaaPolB
import Derived.Test.YtcnihgjibiidpaaMathTell
namespace Go.Proofs.Ytcnihgjibiidpaa
set_option linter.unusedVariables false
open Go.RowKit

/-- The bytes, the number that is told, the place of the answer. -/
structure NT (w : World) (a g r : Nat) (B : List UInt8) (l : List Nat) (W : World) : Prop where
  src : Arr W a 53 B
  now : Num W g l
  res : Num W r [0, 0, 0, 0, 0]
  na : a ≠ g
  nr : r ≠ g
  bg : w.heap.size ≤ g
  br : w.heap.size ≤ r
  bel : Below w.heap.size w W
theorem NT.set {w W : World} {a g r : Nat} {B : List UInt8} {l : List Nat} (t : NT w a g r B l W) (i x : Nat) : NT w a g r B (l.set i x) (W.setCell ⟨g, i, none⟩ (nv x)) := by
  have hg := t.bg
  exact ⟨t.src.other t.na i _, t.now.set i x, t.res.other t.nr i _, t.na, t.nr, t.bg, t.br, t.bel.setCell (p := ⟨g, i, none⟩) (by show _ ≤ g; omega) _⟩
theorem Arr.alloc {w : World} {g : Nat} {t : TypeId} {l : List UInt8} (h : Arr w g t l) (o : Obj) : Arr (w.alloc o) g t l := by
  unfold Arr
  rw [Below.heap_alloc _ _ _ h.lt]
  exact h
theorem NT.new (w : World) (B : List UInt8) : NT w w.heap.size (w.heap.size + 1 + 1) (w.heap.size + 1) B [0, 0, 0, 0, 0] (((w.alloc (.cells (B.map bv).toArray 53)).alloc (.cells #[.int .u64 0, .int .u64 0, .int .u64 0, .int .u64 0, .int .u64 0] 51)).alloc (.cells #[.int .u64 0, .int .u64 0, .int .u64 0, .int .u64 0, .int .u64 0] 51)) := by
  have h1 : Num ((w.alloc (.cells (B.map bv).toArray 53)).alloc (.cells #[.int .u64 0, .int .u64 0, .int .u64 0, .int .u64 0, .int .u64 0] 51)) (w.heap.size + 1) [0, 0, 0, 0, 0] := by
    have := heap_alloc_new (w.alloc (.cells (B.map bv).toArray 53)) (.cells #[.int .u64 0, .int .u64 0, .int .u64 0, .int .u64 0, .int .u64 0] 51)
    rw [World.size_alloc] at this
    exact this
  refine ⟨((Arr.new w _ B).alloc _).alloc _, ?_, h1.alloc _, by omega, by omega, by omega, by omega, ?_⟩
  · have := heap_alloc_new ((w.alloc (.cells (B.map bv).toArray 53)).alloc (.cells #[.int .u64 0, .int .u64 0, .int .u64 0, .int .u64 0, .int .u64 0] 51)) (.cells #[.int .u64 0, .int .u64 0, .int .u64 0, .int .u64 0, .int .u64 0] 51)
    rw [World.size_alloc, World.size_alloc] at this
    exact this
  · exact (((Below.refl _ _).alloc (Nat.le_refl _) _).alloc (by simp) _).alloc (by simp <;> omega) _

set_option maxHeartbeats 400000 in
set_option maxRecDepth 100000 in
theorem tell_any (B : List UInt8) (w : World) (hB : B.length = 17) :
    Calls Try.prog 23 #[.agg (B.map bv).toArray] w fun e w' => e = .returned (.agg ((limbs (leN B)).map nv).toArray) ∧ Below w.heap.size w w' := by
  go_enter Try.func23, Try.ntmps23
  go_wp2
  refine from_world (P := Code.wp Try.prog _ _ _) (R := fun W => Hid (NT w w.heap.size (w.heap.size + 1 + 1) (w.heap.size + 1) B [0, 0, 0, 0, 0] W)) _ (NT.new w B) ?_
  intro W0 hN0
  generalize w.heap.size + 1 + 1 = g at hN0 ⊢
  generalize w.heap.size + 1 = r at hN0 ⊢
  generalize hb0 : w.heap.size = b0 at hN0 ⊢
  go_loopw [8] (fun i wr => ∃ k : Nat, k ≤ 5 ∧ i = .int .i64 k ∧ Hid (NT w b0 g r B (tellTo (leN B) k) wr)) (fun i _ => 5 - (intOf i).toNat)
  case atStart => exact ⟨0, by omega, rfl, hN0⟩
  case round =>
    clear hN0
    obtain ⟨k, hk, rfl, hN⟩ := hrel
    by_cases hlt : k < 5
    · have hki : (k : Int) < 5 := by omega
      obtain ⟨p, hp⟩ : ∃ p, 26 * k = p := ⟨_, rfl⟩
      obtain ⟨q, hq⟩ : ∃ q, p / 8 = q := ⟨_, rfl⟩
      obtain ⟨s, hs⟩ : ∃ s, p % 8 = s := ⟨_, rfl⟩
      have e1 : (k : Int) * 26 = (p : Int) := by omega
      have e2 : (p : Int).tdiv 8 = (q : Int) := by rw [Int.tdiv_eq_ediv_of_nonneg (by omega)]; omega
      have e2' : (p : Int) / 8 = (q : Int) := by omega
      have e3 : (p : Int).tmod 8 = (s : Int) := by rw [Int.tmod_eq_emod_of_nonneg (by omega)]; omega
      have e3' : (p : Int) % 8 = (s : Int) := by omega
      have hlc := limb_cut B k hlt
      rw [hp, hq, hs] at hlc
      obtain ⟨cc, fr⟩ := hN.out.now.word k (by rw [tellTo_length]; omega)
      have HB : Hid (Byt wr (some ⟨b0, 0, none⟩) 17 B) := hN.out.src.byt 17 hB
      have HN : Hid (NT w b0 g r B (tellTo (leN B) k) wr) := hN
      clear hN
      go_wp2_with fail
      refine (get_yes b0 0 17 17 q 4 false B wr (by unfold maxLen; omega) (by omega) HB.out (by omega) (by omega) (by omega)).mono ?_
      rintro e w' ⟨rfl, rfl⟩
      obtain ⟨v, hv⟩ : ∃ v, getV B false q 4 = v := ⟨_, rfl⟩
      rw [hv] at hlc ⊢
      have hvb : v < 18446744073709551616 := by
        rw [← hv, getV_cut]
        exact Nat.lt_of_lt_of_le (Nat.mod_lt _ (by decide)) (by decide)
      have hs8 : s < 8 := by omega
      have E1 : Hid ((v : Int) / 2 ^ s = ((v / 2 ^ s : Nat) : Int)) := by show _ = _; simp
      have hvs : v / 2 ^ s < 18446744073709551616 := Nat.lt_of_le_of_lt (Nat.div_le_self _ _) hvb
      have E2 : Hid (bits .and .u64 ((v / 2 ^ s : Nat) : Int) 67108863 = ((v / 2 ^ s % 67108864 : Nat) : Int)) := and26 _ hvs
      have HN1 : Hid (NT w b0 g r B (tellTo (leN B) (k + 1)) (w'.setCell ⟨g, k, none⟩ (.int .u64 ((v / 2 ^ s % 67108864 : Nat) : Int)))) := by
        rw [tellTo, ← hlc]; exact HN.out.set k _
      clear HN hvs hlc
      go_wp2
      rw [E1.out, E2.out]
      exact ⟨⟨k + 1, by omega, by go_num, HN1⟩, by simp [intOf]; omega⟩
    · have ek : k = 5 := by omega
      subst ek
      have hkr : ¬ ((5 : Nat) : Int) < 5 := by omega
      rw [tellTo_all] at hN
      obtain ⟨M, hM⟩ : ∃ M, limbs (leN B) = M := ⟨_, rfl⟩
      have hMl : M.length = 5 := by rw [← hM, limbs_length]
      rw [hM] at hN
      have HM : Hid (limbs (leN B) = M) := hM
      have IM : Hid ((Try.prog.info? 51).map (·.size) = some (M.map nv).toArray.size) := num_info M hMl
      have hst := store_row wr r _ _ (M.map nv) hN.out.res (by simp [hMl]) (nv_oneCell M)
      have hrow := setRow_heap wr r _ (M.map nv).toArray _ _ hN.out.res
      have HBel : Hid (Below w.heap.size w (wr.setRow r (M.map nv).toArray)) := below_setRow hN.out.bel hN.out.br _
      obtain ⟨W4, hW4⟩ : ∃ W4, wr.setRow r (M.map nv).toArray = W4 := ⟨_, rfl⟩
      rw [hW4] at hst hrow HBel
      have HRow : Hid (W4.heap[r]? = some (.cells (M.map nv).toArray 51 (0, 0))) := hrow
      clear hrow hW4 hM
      go_wp2_with (first | (refine wpList_load_row rfl 51 _ rfl g rfl 51 _ (0, 0) _ hN.out.now Try.underlying51 rfl IM.out ?_))
      (try simp only [Exit.inBlock, Exit.then])
      refine bodyPost_ret (results_cell_row rfl _ _ r 51 _ (0, 0) _ rfl HRow.out Try.underlying51 rfl IM.out) rfl ?_
      exact ⟨by rw [HM.out], by rw [← hb0]; exact HBel.out⟩

def z17 : List UInt8 := List.replicate 17 0
theorem arr17_info (l : List UInt8) (hl : l.length = 17) : (Try.prog.info? 53).map (·.size) = some (l.map bv).toArray.size := by
  have e1 : (Try.prog.info? 53).map (·.size) = some 17 := by kernel_rfl
  rw [e1]; simp [hl]
theorem Arr.put {w : World} {g : Nat} {t : TypeId} {l : List UInt8} (h : Arr w g t l) (l' : List UInt8) : Arr (w.setRow g (l'.map bv).toArray) g t l' := setRow_heap w g _ _ _ _ h
theorem Arr.keep {w : World} {g g' : Nat} {t : TypeId} {l : List UInt8} (h : Arr w g t l) (hne : g ≠ g') (cs : Array Value) : Arr (w.setRow g' cs) g t l := by
  unfold Arr; rw [setRow_other _ _ _ _ hne]; exact h
theorem arr_new2 (w : World) (t : TypeId) (l m : List UInt8) (s : TypeId) : Arr ((w.alloc (.cells (l.map bv).toArray t)).alloc (.cells (m.map bv).toArray s)) (w.heap.size + 1) s m ∧ Arr ((w.alloc (.cells (l.map bv).toArray t)).alloc (.cells (m.map bv).toArray s)) w.heap.size t l := by
  constructor
  · have := heap_alloc_new (w.alloc (.cells (l.map bv).toArray t)) (.cells (m.map bv).toArray s)
    rw [World.size_alloc] at this
    exact this
  · exact (Arr.new w t l).alloc _
theorem closed_row (part : List UInt8) (n : Nat) (h : part.length = n) (hn : n ≤ 16) : (z17.map bv).take 0 ++ part.map bv ++ (z17.map bv).drop (0 + n) = (part ++ List.replicate (17 - n) 0).map bv := by
  rw [List.take_zero, List.nil_append, List.map_append, z17, List.map_replicate, List.map_replicate, List.drop_replicate, Nat.zero_add]
theorem closed_set (part : List UInt8) (n : Nat) (h : part.length = n) (hn : n ≤ 16) : (part ++ List.replicate (17 - n) 0).set n 1 = part ++ 1 :: List.replicate (16 - n) 0 := by
  rw [show 17 - n = (16 - n) + 1 by omega, List.replicate_succ, List.set_append_right _ _ (by omega)]
  simp [h]

set_option maxHeartbeats 400000 in
set_option maxRecDepth 100000 in
theorem closed_any (b off len cap : Nat) (part : List UInt8) (w : World) (hB : Byt w (some ⟨b, off, none⟩) len part) (hl : len ≤ 16) :
    Calls Try.prog 26 #[.slice (some ⟨b, off, none⟩) len cap] w fun e w' => e = .returned (.agg ((part ++ 1 :: List.replicate (16 - len) 0).map bv).toArray) ∧ Below w.heap.size w w' := by
  have hpl := hB.1
  obtain ⟨a1, a0⟩ := arr_new2 w 53 z17 z17 53
  have b1 : Below w.heap.size w ((w.alloc (.cells (z17.map bv).toArray 53)).alloc (.cells (z17.map bv).toArray 53)) := ((Below.refl _ _).alloc (Nat.le_refl _) _).alloc (by simp) _
  obtain ⟨W1, hW1⟩ : ∃ W1, (w.alloc (.cells (z17.map bv).toArray 53)).alloc (.cells (z17.map bv).toArray 53) = W1 := ⟨_, rfl⟩
  rw [hW1] at a1 a0 b1
  have hcp := run_copy_row Try.prog W1 24 24 3 5 (w.heap.size + 1) 0 17 17 ⟨b, off, none⟩ len cap _ _ (part.map bv) Try.underlying24 Try.info1U8 a1
    (by rw [List.length_map, hpl]; show len = min len 17; omega) (fun j v hj => (hB.later b1).cells _ rfl j v (by simpa using hj)) (by simp [z17]; omega) (bv_oneCell _)
  rw [List.length_map, hpl] at hcp
  simp only [] at hcp
  rw [closed_row part len hpl hl] at hcp
  have a2 := a1.put (part ++ List.replicate (17 - len) 0)
  have a02 := a0.keep (g' := w.heap.size + 1) (by omega) ((part ++ List.replicate (17 - len) 0).map bv).toArray
  have b2 : Below w.heap.size w (W1.setRow (w.heap.size + 1) ((part ++ List.replicate (17 - len) 0).map bv).toArray) := below_setRow b1 (by omega) _
  obtain ⟨W2, hW2⟩ : ∃ W2, W1.setRow (w.heap.size + 1) ((part ++ List.replicate (17 - len) 0).map bv).toArray = W2 := ⟨_, rfl⟩
  rw [hW2] at a2 a02 b2 hcp
  obtain ⟨cc, fr⟩ := a2.at_ len (by simp; omega)
  have a3 := a2.set len 1
  rw [closed_set part len hpl hl] at a3
  have a03 := a02.other (g' := w.heap.size + 1) (by omega) len (.int .u8 (((1 : UInt8)).toNat : Int))
  have b3 : Below w.heap.size w (W2.setCell ⟨w.heap.size + 1, len, none⟩ (.int .u8 (((1 : UInt8)).toNat : Int))) := b2.setCell (p := ⟨w.heap.size + 1, len, none⟩) (by show _ ≤ _ + 1; omega) _
  obtain ⟨W3, hW3⟩ : ∃ W3, W2.setCell ⟨w.heap.size + 1, len, none⟩ (.int .u8 1) = W3 := ⟨_, rfl⟩
  obtain ⟨C, hC⟩ : ∃ C, part ++ 1 :: List.replicate (16 - len) 0 = C := ⟨_, rfl⟩
  have hCl : C.length = 17 := by rw [← hC]; simp; omega
  have e3 : W2.setCell ⟨w.heap.size + 1, len, none⟩ (.int .u8 (((1 : UInt8)).toNat : Int)) = W3 := hW3
  rw [e3] at a3 a03 b3
  rw [hC] at a3
  have HA3 : Hid (Arr W3 (w.heap.size + 1) 53 C) := a3
  have IC : Hid ((Try.prog.info? 53).map (·.size) = some (C.map bv).toArray.size) := arr17_info C hCl
  have hst := store_row W3 w.heap.size _ _ (C.map bv) a03 (by simp [hCl, z17]) (bv_oneCell C)
  have hrow := setRow_heap W3 w.heap.size _ (C.map bv).toArray _ _ a03
  have HBel : Hid (Below w.heap.size w (W3.setRow w.heap.size (C.map bv).toArray)) := below_setRow b3 (Nat.le_refl _) _
  obtain ⟨W4, hW4⟩ : ∃ W4, W3.setRow w.heap.size (C.map bv).toArray = W4 := ⟨_, rfl⟩
  rw [hW4] at hst hrow HBel
  have HRow : Hid (W4.heap[w.heap.size]? = some (.cells (C.map bv).toArray 53 (0, 0))) := hrow
  have HCP : Hid ((Builtin.copy_ #[24, 24] 3 #[.slice (some ⟨w.heap.size + 1, 0, none⟩) 17 17, .slice (some ⟨b, off, none⟩) len cap]).run Try.prog ((w.alloc (.cells (z17.map bv).toArray 53)).alloc (.cells (z17.map bv).toArray 53)) = .ok (goInt len) W2) := by rw [hW1]; exact hcp
  have HC : Hid (part ++ 1 :: List.replicate (16 - len) 0 = C) := hC
  have HW3 : Hid (W2.setCell ⟨w.heap.size + 1, len, none⟩ (.int .u8 1) = W3) := hW3
  have hl17 : (len : Int) < 17 := by omega
  clear hcp a0 a1 b1 hW1 a2 a02 b2 hW2 a3 a03 b3 e3 hW3 hC hrow hW4 hB
  have hcp : (Builtin.copy_ #[24, 24] 3 #[.slice (some ⟨w.heap.size + 1, 0, none⟩) 17 17, .slice (some ⟨b, off, none⟩) len cap]).run Try.prog ((w.alloc (.cells #[.int .u8 0, .int .u8 0, .int .u8 0, .int .u8 0, .int .u8 0, .int .u8 0, .int .u8 0, .int .u8 0, .int .u8 0, .int .u8 0, .int .u8 0, .int .u8 0, .int .u8 0, .int .u8 0, .int .u8 0, .int .u8 0, .int .u8 0] 53)).alloc (.cells #[.int .u8 0, .int .u8 0, .int .u8 0, .int .u8 0, .int .u8 0, .int .u8 0, .int .u8 0, .int .u8 0, .int .u8 0, .int .u8 0, .int .u8 0, .int .u8 0, .int .u8 0, .int .u8 0, .int .u8 0, .int .u8 0, .int .u8 0] 53)) = .ok (.int .i64 (len : Int)) W2 := HCP.out
  clear HCP
  go_enter Try.func26, Try.ntmps26
  go_wp2_with (first | (rw [HW3.out]; refine wpList_load_row rfl 53 _ rfl (w.heap.size + 1) rfl 53 _ (0, 0) _ HA3.out Try.underlying53 rfl IC.out ?_))
  (try simp only [Exit.inBlock, Exit.then])
  refine bodyPost_ret (results_cell_row rfl _ _ w.heap.size 53 _ (0, 0) _ rfl HRow.out Try.underlying53 rfl IC.out) rfl ?_
  exact ⟨by rw [HC.out], HBel.out⟩
end Go.Proofs.Ytcnihgjibiidpaa
