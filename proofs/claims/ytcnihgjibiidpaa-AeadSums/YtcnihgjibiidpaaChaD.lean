/- The walks over the program's fill and lay. -/
import Derived.Test.YtcnihgjibiidpaaChaB
namespace Go.Proofs.Ytcnihgjibiidpaa
set_option linter.unusedVariables false
open Go.RowKit

/-- The first k words of the bytes, laid from a place on. -/
def fillTo (l : List (BitVec 32)) (off : Nat) (t : List UInt8) : Nat → List (BitVec 32)
  | 0 => l
  | k + 1 => (fillTo l off t k).set (off + k) (wordAt t k)
theorem fillTo_length (l : List (BitVec 32)) (off : Nat) (t : List UInt8) : ∀ k, (fillTo l off t k).length = l.length
  | 0 => rfl
  | k + 1 => by rw [fillTo, List.length_set, fillTo_length l off t k]
theorem laid_chaAt (key : List UInt8) (ctr : BitVec 32) (nonce : List UInt8) :
    fillTo (fillTo [0x61707865#32, 0x3320646e#32, 0x79622d32#32, 0x6b206574#32, 0#32, 0#32, 0#32, 0#32, 0#32, 0#32, 0#32, 0#32, ctr, 0#32, 0#32, 0#32] 4 key 8) 13 nonce 3 = chaAt key ctr nonce := by
  rfl
set_option maxHeartbeats 400000 in
set_option maxRecDepth 100000 in
theorem fill_any (g off n cap b boff bcap : Nat) (l : List (BitVec 32)) (t : List UInt8) (w : World) (hS : Wds w g l) (hoff : off + n ≤ l.length) (hn : n ≤ 100) (hnc : n ≤ cap) (hB : Byt w (some ⟨b, boff, none⟩) (4 * n) t) (hbc : 4 * n ≤ bcap) (hbm : bcap ≤ 1000000) (hbg : b ≠ g) :
    Calls Try.prog 62 #[.slice (some ⟨g, off, none⟩) n cap, .slice (some ⟨b, boff, none⟩) (4 * n : Nat) bcap] w fun e w' => (∃ v, e = .returned v) ∧ Wds w' g (fillTo l off t n) ∧ w.grownBy w' (some g) := by
  obtain ⟨L, hL⟩ : ∃ L, 4 * n = L := ⟨_, rfl⟩
  rw [hL] at hB hbc ⊢
  have HB : Hid (Byt w (some ⟨b, boff, none⟩) L t) := hB
  have HS : Hid (Tur w g l w) := ⟨hS, grownBy_refl w _⟩
  clear hB hS
  go_enter Try.func62, Try.ntmps62
  go_wp2
  go_loopw [9] (fun i wr => ∃ k : Nat, k ≤ n ∧ i = .int .i64 k ∧ Hid (Tur w g (fillTo l off t k) wr)) (fun i _ => n - (intOf i).toNat)
  case atStart => exact ⟨0, by omega, rfl, HS⟩
  case round =>
    clear HS
    obtain ⟨k, hk, rfl, hT⟩ := hrel
    by_cases hlt : k < n
    · obtain ⟨p, hp⟩ : ∃ p, 4 * k = p := ⟨_, rfl⟩
      have e1 : (k : Int) * 4 = (p : Int) := by omega
      have i1 : (k : Int) < (n : Int) := by omega
      have HBr : Hid (Byt wr (some ⟨b, boff, none⟩) L t) := HB.out.but hT.out.grown hbg
      have HV : Hid ((getV t false p 4 : Int) % 4294967296 = ((wordAt t k).toNat : Int)) := by
        show _ = _
        have := getV4_lt t p
        rw [wordAt_val, hp]; omega
      obtain ⟨W, hW⟩ : ∃ W, wr.setCell ⟨g, off + k, none⟩ (uv (wordAt t k)) = W := ⟨_, rfl⟩
      have HT : Hid (Tur w g (fillTo l off t (k + 1)) W) := by
        rw [← hW]
        refine hT.out.next (hT.out.now.set (off + k) _) ⟨rfl, rfl, rfl, by simp, fun j hj hne => ?_⟩
        exact heap_setCell_other wr ⟨g, off + k, none⟩ j _ (fun e => hne (by rw [e]))
      have HW : Hid (wr.setCell ⟨g, off + k, none⟩ (.int .u32 ((wordAt t k).toNat : Int)) = W) := hW
      obtain ⟨_, fr⟩ := hT.out.now.word (off + k) (by rw [fillTo_length]; omega)
      obtain ⟨cc, _⟩ := hT.out.now.word (off + k) (by rw [fillTo_length]; omega)
      clear hW hT
      go_wp2_with fail
      refine (get_yes b boff L bcap p 4 false t wr (by unfold maxLen; omega) hbc HBr.out (by omega) (by omega) (by omega)).mono ?_
      rintro e w' ⟨rfl, rfl⟩
      go_wp2
      rw [HV.out, HW.out]
      exact ⟨⟨k + 1, by omega, by go_num, HT⟩, by simp [intOf]; omega⟩
    · have ek : k = n := by omega
      subst ek
      go_wp2
      go_end0
      exact ⟨⟨_, rfl⟩, hT.out.now, hT.out.grown⟩

def zero16 : Array Value := (List.replicate 16 (Value.int .u32 0)).toArray
/-- What lay has made: the key, the nonce, the place of its answer, the words. -/
structure Lay (w : World) (key nonce : List UInt8) (l : List (BitVec 32)) (W : World) : Prop where
  key : W.heap[w.heap.size]? = some (.cells (key.map bv).toArray 23 (0, 0))
  nonce : W.heap[w.heap.size + 1]? = some (.cells (nonce.map bv).toArray 40 (0, 0))
  out : W.heap[w.heap.size + 1 + 1]? = some (.cells zero16 84 (0, 0))
  now : Wds W (w.heap.size + 1 + 1 + 1) l
  bel : Below w.heap.size w W
theorem Lay.next {w W W' : World} {key nonce : List UInt8} {l l' : List (BitVec 32)} (h : Lay w key nonce l W) (hs : Wds W' (w.heap.size + 1 + 1 + 1) l') (hg : W.grownBy W' (some (w.heap.size + 1 + 1 + 1))) : Lay w key nonce l' W' := by
  have hlt := h.now.lt
  refine ⟨?_, ?_, ?_, hs, h.bel.grown hg h.bel.size (fun k e => by cases e; omega)⟩
  · rw [hg.block _ (by omega) (fun e => by have := Option.some.inj e; omega)]; exact h.key
  · rw [hg.block _ (by omega) (fun e => by have := Option.some.inj e; omega)]; exact h.nonce
  · rw [hg.block _ (by omega) (fun e => by have := Option.some.inj e; omega)]; exact h.out
theorem Lay.new (w : World) (key nonce : List UInt8) (l : List (BitVec 32)) :
    Lay w key nonce l ((((w.alloc (.cells (key.map bv).toArray 23)).alloc (.cells (nonce.map bv).toArray 40)).alloc (.cells zero16 84)).alloc (.cells (l.map uv).toArray 84)) := by
  refine ⟨?_, ?_, ?_, ?_, ?_⟩
  · rw [Below.heap_alloc _ _ _ (by simp <;> omega), Below.heap_alloc _ _ _ (by simp <;> omega), Below.heap_alloc _ _ _ (by simp)]
    exact heap_alloc_new w _
  · rw [Below.heap_alloc _ _ _ (by simp <;> omega), Below.heap_alloc _ _ _ (by simp)]
    have := heap_alloc_new (w.alloc (.cells (key.map bv).toArray 23)) (.cells (nonce.map bv).toArray 40)
    rwa [World.size_alloc] at this
  · rw [Below.heap_alloc _ _ _ (by simp)]
    have := heap_alloc_new ((w.alloc (.cells (key.map bv).toArray 23)).alloc (.cells (nonce.map bv).toArray 40)) (.cells zero16 84)
    rwa [World.size_alloc, World.size_alloc] at this
  · have := heap_alloc_new (((w.alloc (.cells (key.map bv).toArray 23)).alloc (.cells (nonce.map bv).toArray 40)).alloc (.cells zero16 84)) (.cells (l.map uv).toArray 84)
    rwa [World.size_alloc, World.size_alloc, World.size_alloc] at this
  · exact ((((Below.refl _ _).alloc (Nat.le_refl _) _).alloc (by simp) _).alloc (by simp <;> omega) _).alloc (by simp <;> omega) _

set_option maxHeartbeats 2000000 in
set_option maxRecDepth 100000 in
theorem lay_any (key nonce : List UInt8) (ctr : BitVec 32) (w : World) (hk : key.length = 32) (hn : nonce.length = 12) :
    Calls Try.prog 57 #[.agg (key.map bv).toArray, .int .u32 (ctr.toNat : Int), .agg (nonce.map bv).toArray] w fun e w' => e = .returned (.agg ((chaAt key ctr nonce).map uv).toArray) ∧ Below w.heap.size w w' := by
  go_enter Try.func57, Try.ntmps57
  go_wp2
  refine from_world (P := Code.wp Try.prog _ _ _) (R := Lay w key nonce [0x61707865#32, 0x3320646e#32, 0x79622d32#32, 0x6b206574#32, 0#32, 0#32, 0#32, 0#32, 0#32, 0#32, 0#32, 0#32, ctr, 0#32, 0#32, 0#32]) _ (Lay.new w key nonce _) ?_
  intro W0 hL0
  obtain ⟨l0, hl0⟩ : ∃ l0, [0x61707865#32, 0x3320646e#32, 0x79622d32#32, 0x6b206574#32, 0#32, 0#32, 0#32, 0#32, 0#32, 0#32, 0#32, 0#32, ctr, 0#32, 0#32, 0#32] = l0 := ⟨_, rfl⟩
  rw [hl0] at hL0
  have hlen0 : l0.length = 16 := by rw [← hl0]; rfl
  have HE : Hid (fillTo (fillTo l0 4 key 8) 13 nonce 3 = chaAt key ctr nonce) := by rw [← hl0]; exact laid_chaAt key ctr nonce
  have HL0 : Hid (Lay w key nonce l0 W0.drew) := hL0.next hL0.now (grownBy_drew W0 _)
  clear hL0 hl0
  refine wp_region_sched' (G := But (w.heap.size + 1 + 1 + 1)) (by kernel_rfl) (But.refl _) (But.trans _) (by kernel_rfl) [(0, true), (1, true), (2, false)] rfl (by kernel_rfl) ?_
  intro KK hKK
  generalize W0.drew = W1 at HL0
  iterate 2 (refine sched_take rfl (by rfl) (v := ?_) ?_ ?_; rotate_left; (intro w' hw'; clear hw'; go_simp; with_reducible rfl); go_simp)
  refine sched_call (f := 62) (args := #[.slice (some ⟨w.heap.size + 1 + 1 + 1, 4, none⟩) 8 12, .slice (some ⟨w.heap.size, 0, none⟩) 32 32]) rfl (by rfl) (by go_simp) ?_
  refine (fill_any (w.heap.size + 1 + 1 + 1) 4 8 12 w.heap.size 0 32 l0 key _ HL0.out.now (by omega) (by omega) (by omega) (byt_row 32 hk HL0.out.key) (by omega) (by omega) (by omega)).mono ?_
  rintro e w2 ⟨⟨v, rfl⟩, hs2, hg2⟩
  refine ⟨_, rfl, hg2, ?_⟩
  have HL2 : Hid (Lay w key nonce (fillTo l0 4 key 8) w2.drew) := (HL0.out.next hs2 hg2).next hs2 (grownBy_drew w2 _)
  clear hs2 hg2 HL0
  go_simp
  refine sched_done hKK ?_
  go_wp2
  refine wp_region_sched' (G := But (w.heap.size + 1 + 1 + 1)) (by kernel_rfl) (But.refl _) (But.trans _) (by kernel_rfl) [(0, true), (1, true), (2, false)] rfl (by kernel_rfl) ?_
  intro KK2 hKK2
  generalize w2.drew = W2 at HL2
  iterate 2 (refine sched_take rfl (by rfl) (v := ?_) ?_ ?_; rotate_left; (intro w' hw'; clear hw'; go_simp; with_reducible rfl); go_simp)
  refine sched_call (f := 62) (args := #[.slice (some ⟨w.heap.size + 1 + 1 + 1, 13, none⟩) 3 3, .slice (some ⟨w.heap.size + 1, 0, none⟩) 12 12]) rfl (by rfl) (by go_simp) ?_
  refine (fill_any (w.heap.size + 1 + 1 + 1) 13 3 3 (w.heap.size + 1) 0 12 _ nonce _ HL2.out.now (by rw [fillTo_length]; omega) (by omega) (by omega) (byt_row 12 hn HL2.out.nonce) (by omega) (by omega) (by omega)).mono ?_
  rintro e w3 ⟨⟨v, rfl⟩, hs3, hg3⟩
  refine ⟨_, rfl, hg3, ?_⟩
  have HL3 : Hid (Lay w key nonce (chaAt key ctr nonce) w3) := by rw [← HE.out]; exact HL2.out.next hs3 hg3
  clear hs3 hg3 HL2 HE
  go_simp
  refine sched_done hKK2 ?_
  have hclen := chaAt_length key ctr nonce
  obtain ⟨cl, hcl⟩ : ∃ cl, chaAt key ctr nonce = cl := ⟨_, rfl⟩
  rw [hcl] at HL3 hclen
  have HCL : Hid (chaAt key ctr nonce = cl) := hcl
  clear hcl
  have IB : Hid ((Try.prog.info? 84).map (·.size) = some (cl.map uv).toArray.size) := by
    have e1 : (Try.prog.info? 84).map (·.size) = some 16 := by kernel_rfl
    show _ = _
    rw [e1]; simp [hclen]
  have hst := store_row w3 (w.heap.size + 1 + 1) _ _ (cl.map uv) HL3.out.out (by simp [hclen, zero16]) (uv_oneCell cl)
  have hrow := setRow_heap w3 (w.heap.size + 1 + 1) _ (cl.map uv).toArray _ _ HL3.out.out
  have HBel : Hid (Below w.heap.size w (w3.setRow (w.heap.size + 1 + 1) (cl.map uv).toArray)) := below_setRow HL3.out.bel (by omega) _
  obtain ⟨W4, hW4⟩ : ∃ W4, w3.setRow (w.heap.size + 1 + 1) (cl.map uv).toArray = W4 := ⟨_, rfl⟩
  rw [hW4] at hst hrow HBel
  have HRow : Hid (W4.heap[w.heap.size + 1 + 1]? = some (.cells (cl.map uv).toArray 84 (0, 0))) := hrow
  clear hrow hW4
  go_wp2_with (first | refine wpList_load_row rfl 84 _ rfl (w.heap.size + 1 + 1 + 1) rfl 84 _ (0, 0) _ HL3.out.now Try.underlying84 rfl IB.out ?_)
  (try simp only [Exit.inBlock, Exit.then])
  refine bodyPost_ret (results_cell_row rfl _ _ (w.heap.size + 1 + 1) 84 _ (0, 0) _ rfl HRow.out Try.underlying84 rfl IB.out) rfl ?_
  exact ⟨by rw [HCL.out], HBel.out⟩
end Go.Proofs.Ytcnihgjibiidpaa
