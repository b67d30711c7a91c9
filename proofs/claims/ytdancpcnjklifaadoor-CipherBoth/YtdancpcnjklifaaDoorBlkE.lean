/- The walk over the program's key (blake). -/
import Derived.Test.YtdancpcnjklifaaDoorBlkD
import Derived.Test.YtdancpcnjklifaaDoorBase
namespace Go.Proofs.YtdancpcnjklifaaDoor
set_option linter.unusedVariables false
set_option maxRecDepth 100000
open Go.RowKit

theorem run_sum_index (w : World) (s : List (BitVec 32)) (i : Nat) (hs : s.length = 8) (hi : i < 8) : (Instr.index 89 (.agg (s.map uv).toArray) (.int .i64 (i : Int))).run Tryd.prog w = .ok (.int .u32 ((at32 s i).toNat : Int)) w := by
  have hu : Tryd.prog.underlying 89 = some (.array 8 80) := Tryd.underlying89
  have he : Tryd.prog.plainKey 80 = true := by kernel_rfl
  have hc : Tryd.prog.cellsOf 80 = 1 := by kernel_rfl
  have p1 := run_part_plain (P := Tryd.prog) w he (xs := (s.map uv).toArray) (off := i * 1) (v := .int .u32 ((at32 s i).toNat : Int)) (by rw [Nat.mul_one, at32_get s i (by omega)]; simp [show i < s.length by omega, uv])
  rw [Nat.mul_one] at p1
  simp [Instr.index, asIntOf, run_underlying hu, hi, go_sem]
  rw [List.getElem?_eq_getElem (by omega), at32_get s i (by omega)]
  rfl
/-- The bytes of the first k words, and 0s behind them. -/
def keyTo (s : List (BitVec 32)) (k : Nat) : List Value := (wordsB (s.take k)).map bv ++ List.replicate (32 - 4 * k) (.int .u8 0)
theorem keyTo_length (s : List (BitVec 32)) (k : Nat) (hs : s.length = 8) (hk : k ≤ 8) : (keyTo s k).length = 32 := by
  simp [keyTo, wordsB_length, hs]; omega
theorem keyTo_step (s : List (BitVec 32)) (k : Nat) (hs : s.length = 8) (hk : k < 8) (n : Nat) (hn : (at32 s k).toNat = n) :
    (keyTo s k).take (4 * k) ++ (putB 4 n false).map bv ++ (keyTo s k).drop (4 * k + 4) = keyTo s (k + 1) := by
  have hl : ((wordsB (s.take k)).map bv).length = 4 * k := by simp [wordsB_length, hs]; omega
  have e1 : (keyTo s k).take (4 * k) = (wordsB (s.take k)).map bv := by
    unfold keyTo; rw [← hl, List.take_left]
  have e2 : (keyTo s k).drop (4 * k + 4) = List.replicate (32 - 4 * (k + 1)) (.int .u8 0) := by
    unfold keyTo
    rw [← List.drop_drop, ← hl, List.drop_left, hl, List.drop_replicate]
    congr 1
  rw [e1, e2]
  unfold keyTo
  have e3 : s.take (k + 1) = s.take k ++ [at32 s k] := by rw [List.take_succ_eq_append_getElem (by omega), at32_get s k (by omega)]
  rw [e3, wordsB_append, List.map_append, wordsB, wordsB, List.append_nil, hn]
  simp [putB]
def zero32B : Array Value := (List.replicate 32 (Value.int .u8 0)).toArray
/-- While the bytes are laid out. -/
structure Ky (w : World) (gs gr go : Nat) (s : List (BitVec 32)) (o : List Value) (W : World) : Prop where
  s : Wd W gs 89 s
  res : W.heap[gr]? = some (.cells zero32B 23 (0, 0))
  out : W.heap[go]? = some (.cells o.toArray 23 (0, 0))
  nso : gs ≠ go
  nro : gr ≠ go
  br : w.heap.size ≤ gr
  bo : w.heap.size ≤ go
  bel : Below w.heap.size w W
theorem Ky.new (w : World) (s : List (BitVec 32)) : Ky w w.heap.size (w.heap.size + 1) (w.heap.size + 1 + 1) s (keyTo s 0) (((w.alloc (.cells (s.map uv).toArray 89)).alloc (.cells zero32B 23)).alloc (.cells zero32B 23)) := by
  have h0 := Wd.new w 89 s
  have h1 := heap_alloc_new (w.alloc (.cells (s.map uv).toArray 89)) (.cells zero32B 23)
  have h2 := heap_alloc_new ((w.alloc (.cells (s.map uv).toArray 89)).alloc (.cells zero32B 23)) (.cells zero32B 23)
  rw [World.size_alloc] at h1
  rw [World.size_alloc, World.size_alloc] at h2
  refine ⟨?_, ?_, h2, by omega, by omega, by omega, by omega, ?_⟩
  · unfold Wd
    rw [Below.heap_alloc _ _ _ (by simp; omega), Below.heap_alloc _ _ _ (by simp)]; exact h0
  · rw [Below.heap_alloc _ _ _ (by simp)]; exact h1
  · exact (((Below.refl _ _).alloc (Nat.le_refl _) _).alloc (by simp) _).alloc (by simp; omega) _
theorem Ky.later {w W W' : World} {gs gr go : Nat} {s : List (BitVec 32)} {o : List Value} (t : Ky w gs gr go s o W) (hb : Below W.heap.size W W') : Ky w gs gr go s o W' :=
  ⟨t.s.later hb, by rw [hb.block _ (Array.getElem?_eq_some_iff.1 t.res).1]; exact t.res, by rw [hb.block _ (Array.getElem?_eq_some_iff.1 t.out).1]; exact t.out, t.nso, t.nro, t.br, t.bo, t.bel.trans (hb.mono t.bel.size)⟩
theorem Ky.put {w W : World} {gs gr go : Nat} {s : List (BitVec 32)} {o : List Value} (t : Ky w gs gr go s o W) (o' : List Value) : Ky w gs gr go s o' (W.setRow go o'.toArray) := by
  refine ⟨?_, ?_, setRow_heap W go _ _ _ _ t.out, t.nso, t.nro, t.br, t.bo, below_setRow t.bel t.bo _⟩
  · unfold Wd
    rw [setRow_other _ _ _ _ t.nso]; exact t.s
  · rw [setRow_other _ _ _ _ t.nro]; exact t.res

set_option maxHeartbeats 1000000 in
set_option maxRecDepth 100000 in
theorem bkey_any (s : List (BitVec 32)) (w : World) (hs : s.length = 8) :
    Calls Tryd.prog 54 #[.agg (s.map uv).toArray] w fun e w' => e = .returned (.agg ((wordsB s).map bv).toArray) ∧ Below w.heap.size w w' := by
  have HT0 : Hid (Ky w w.heap.size (w.heap.size + 1) (w.heap.size + 1 + 1) s (keyTo s 0) (((w.alloc (.cells (s.map uv).toArray 89)).alloc (.cells zero32B 23)).alloc (.cells zero32B 23))) := Ky.new w s
  have IS : Hid ((Tryd.prog.info? 89).map (·.size) = some (s.map uv).toArray.size) := info_words (n := 8) (by kernel_rfl) s hs
  have HS0 := HT0.out.s
  go_enter Tryd.func54, Tryd.ntmps54
  go_wp2_with (first | refine wpList_load_row rfl 89 _ rfl w.heap.size rfl 89 _ (0, 0) _ HS0 Tryd.underlying89 rfl IS.out ?_)
  clear HS0
  refine from_world (P := Code.wp Tryd.prog _ _ _) (R := fun W => Hid (Ky w w.heap.size (w.heap.size + 1) (w.heap.size + 1 + 1) s (keyTo s 0) W)) _ HT0 ?_
  intro W0 HT1
  clear HT0
  generalize w.heap.size + 1 + 1 = go at HT1 ⊢
  generalize w.heap.size + 1 = gr at HT1 ⊢
  generalize w.heap.size = gs at HT1 ⊢
  go_loopw [7] (fun i wr => ∃ k : Nat, k ≤ 8 ∧ i = .int .i64 k ∧ Hid (Ky w gs gr go s (keyTo s k) wr)) (fun i _ => 8 - (intOf i).toNat)
  case atStart => exact ⟨0, by omega, rfl, HT1⟩
  case round =>
    clear HT1
    obtain ⟨k, hk, rfl, hO⟩ := hrel
    by_cases hlt : k < 8
    · obtain ⟨x, hx⟩ : ∃ x, at32 s k = x := ⟨_, rfl⟩
      obtain ⟨n, hn'⟩ : ∃ n, x.toNat = n := ⟨_, rfl⟩
      obtain ⟨p, hp⟩ : ∃ p, 4 * k = p := ⟨_, rfl⟩
      have i1 : (k : Int) < 8 := by omega
      have e1 : IntKind.i64.wrap ((k : Int) * 4) = (p : Int) := by rw [IntKind.wrap_i64]; omega
      have hix := run_sum_index wr s k hs hlt
      rw [hx, hn'] at hix
      have HE : Hid ((keyTo s k).take p ++ (putB 4 n false).map bv ++ (keyTo s k).drop (p + 4) = keyTo s (k + 1)) := by rw [← hp]; exact keyTo_step s k hs hlt n (by rw [hx, hn'])
      have HN64 : Hid (IntKind.u64.wrap (n : Int) = (n : Int)) := by show _ = _; have := x.isLt; rw [IntKind.wrap_u64]; omega
      obtain ⟨W, hW⟩ : ∃ W, wr.drew = W := ⟨_, rfl⟩
      have hgr : Below wr.heap.size wr W := by rw [← hW]; exact (Below.refl _ _).drew
      have HOW : Hid (Ky w gs gr go s (keyTo s k) W) := hO.out.later hgr
      have HW : Hid (wr.drew = W) := hW
      have h64 : (p : Int) ≤ 32 := by omega
      have h64' : (p : Int) < 32 := by omega
      have h64n : ¬ 32 = p := by omega
      clear hO hgr hW hx hn'
      go_wp2
      clear hix
      refine wp_region_sched' (G := But go) (by kernel_rfl) (But.refl go) (But.trans go) (by kernel_rfl) [(0, true), (1, true), (2, true), (3, true), (4, true), (5, false), (6, false)] rfl (by kernel_rfl) ?_
      intro KK hKK
      rw [HW.out]
      iterate 5 (refine sched_take rfl (by rfl) (v := ?_) ?_ ?_; rotate_left; (intro w' hw'; go_simp; with_reducible rfl); go_simp)
      refine sched_call (f := 44) (args := #[.slice none 0 0, .int .i64 4, .int .u64 (n : Int), .bool false]) rfl (by rfl) (by go_simp; rw [HN64.out]) ?_
      refine (put_any none 0 0 4 n false [] _ (by omega) ⟨rfl, .inl rfl⟩ 4 (by decide)).mono ?_
      rintro e w8 ⟨g8, rfl, hg8, hb8, hB8⟩
      refine ⟨_, rfl, But.below go hb8, ?_⟩
      have hO8 := HOW.out.later hb8
      have hg28 : go < w8.heap.size := (Array.getElem?_eq_some_iff.1 hO8.out).1
      have hol := keyTo_length s k hs hk
      have hcp := run_copy_row Tryd.prog w8 29 29 3 5 go p (32 - p) (32 - p) ⟨g8, 0, none⟩ (0 + 4) (0 + 4) _ _ ((putB 4 n false).map bv) Tryd.underlying29 Tryd.info1U8 hO8.out
        (by rw [List.length_map, putB_length]; show 4 = min (0 + 4) (32 - p); omega) (fun j v hj => hB8.cells _ rfl j v (by simpa using hj)) (by simp [putB_length, hol]; omega) (bv_oneCell _)
      have hl4 : ((putB 4 n false).map bv).length = 4 := by simp [putB_length]
      rw [hl4] at hcp
      simp only [] at hcp
      rw [HE.out] at hcp
      have HO9 : Hid (Ky w gs gr go s (keyTo s (k + 1)) (w8.setRow go (keyTo s (k + 1)).toArray)) := hO8.put _
      have HG9 : Hid (But go w8 (w8.setRow go (keyTo s (k + 1)).toArray)) := But.setRow _ _ _
      generalize w8.setRow go (keyTo s (k + 1)).toArray = W9 at hcp HO9 HG9
      clear hO8 hB8 hb8 HE HOW hol
      go_simp
      refine sched_val (w' := W9) (v := goInt 4) rfl (by rfl) (by go_simp) HG9.out ?_
      go_simp
      refine sched_done hKK ?_
      go_wp2
      exact ⟨⟨k + 1, by omega, by go_num, HO9⟩, by simp [intOf]; omega⟩
    · have ek : k = 8 := by omega
      have hkr : ¬ (k : Int) < 8 := by omega
      obtain ⟨B, hB⟩ : ∃ B, wordsB s = B := ⟨_, rfl⟩
      have hBl : B.length = 32 := by rw [← hB, wordsB_length, hs]
      have HBe : Hid (wordsB s = B) := hB
      have HO : Hid (Ky w gs gr go s (B.map bv) wr) := by
        have := hO.out
        rw [ek] at this
        have e : keyTo s 8 = B.map bv := by rw [← hB]; simp [keyTo, List.take_of_length_le (Nat.le_of_eq hs)]
        rw [e] at this
        exact this
      have IB : Hid ((Tryd.prog.info? 23).map (·.size) = some (B.map bv).toArray.size) := info_size (n := 32) (by kernel_rfl) B hBl
      have hst := store_row wr gr _ _ (B.map bv) HO.out.res (by simp [hBl, zero32B]) (bv_oneCell B)
      have hrow := setRow_heap wr gr _ (B.map bv).toArray _ _ HO.out.res
      have HBel : Hid (Below w.heap.size w (wr.setRow gr (B.map bv).toArray)) := below_setRow HO.out.bel HO.out.br _
      obtain ⟨W4, hW4⟩ : ∃ W4, wr.setRow gr (B.map bv).toArray = W4 := ⟨_, rfl⟩
      rw [hW4] at hst hrow HBel
      have HRow : Hid (W4.heap[gr]? = some (.cells (B.map bv).toArray 23 (0, 0))) := hrow
      clear hrow hW4 hO hB
      go_wp2_with (first | refine wpList_load_row rfl 23 _ rfl go rfl 23 _ (0, 0) _ HO.out.out Tryd.underlying23 rfl IB.out ?_)
      (try simp only [Exit.inBlock, Exit.then])
      refine bodyPost_ret (results_cell_row rfl _ _ gr 23 _ (0, 0) _ rfl HRow.out Tryd.underlying23 rfl IB.out) rfl ?_
      exact ⟨by rw [HBe.out], HBel.out⟩
end Go.Proofs.YtdancpcnjklifaaDoor
