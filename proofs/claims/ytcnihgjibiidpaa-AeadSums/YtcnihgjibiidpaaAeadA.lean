/- The walks over the program's turn, tagKey, fill and length (aead). -/
import Derived.Test.YtcnihgjibiidpaaRefAe
import Derived.Test.YtcnihgjibiidpaaFrameA
import Derived.Test.YtcnihgjibiidpaaChaC
import Derived.Test.YtcnihgjibiidpaaPolC
namespace Go.Proofs.Ytcnihgjibiidpaa
set_option linter.unusedVariables false
open Go.RowKit

/-- The key and the nonce, one behind the other, as a sealer has them. -/
structure IsSealer (s key nonce : List UInt8) : Prop where
  eq : s = key ++ nonce
  k : key.length = 32
  n : nonce.length = 12
theorem IsSealer.len {s key nonce : List UInt8} (h : IsSealer s key nonce) : s.length = 44 := by rw [h.eq, List.length_append, h.k, h.n]
theorem IsSealer.key {s key nonce : List UInt8} (h : IsSealer s key nonce) {w : World} {g : Nat} {t : TypeId} (hA : Arr w g t s) : Byt w (some ⟨g, 0, none⟩) 32 key := by
  have := (hA.byt 44 h.len).cut (q := 32) (by omega)
  rwa [h.eq, ← h.k, List.take_left, h.k] at this
theorem IsSealer.nonce {s key nonce : List UInt8} (h : IsSealer s key nonce) {w : World} {g : Nat} {t : TypeId} (hA : Arr w g t s) : Byt w (some ⟨g, 32, none⟩) 12 nonce := by
  have := (hA.byt 44 h.len).sub (n := 32) (q := 44) (by omega) (by omega)
  have e : s.drop 32 = nonce := by rw [h.eq, ← h.k, List.drop_left]
  rw [e, List.take_of_length_le (by rw [h.n]; omega)] at this
  simpa using this

set_option maxHeartbeats 400000 in
set_option maxRecDepth 100000 in
theorem turn_own (s key nonce : List UInt8) (hs : IsSealer s key nonce) (a : Option Addr) (len cap : Nat) (l : List UInt8) (w : World) (hB : Byt w a len l) (hlm : len ≤ 1000000) (hlc : len ≤ cap) (hcm : cap ≤ maxLen) :
    Calls Try.prog 34 #[.agg (s.map bv).toArray, .slice a len cap] w fun e w' => ∃ v, e = .returned v ∧ Below w.heap.size w w' ∧ w'.ownsRow w.heap.size 5 1 v len ((stm key 1#32 nonce l).map bv) := by
  have hA := Arr.new w 64 s
  have HK : Hid (Byt (w.alloc (.cells (s.map bv).toArray 64)) (some ⟨w.heap.size, 0, none⟩) 32 key) := hs.key hA
  have HN : Hid (Byt (w.alloc (.cells (s.map bv).toArray 64)) (some ⟨w.heap.size, 32, none⟩) 12 nonce) := hs.nonce hA
  have HB : Hid (Byt w a len l) := hB
  clear hA hB
  go_enter Try.func34, Try.ntmps34
  go_wp2_with (first | refine wpList_load_byt rfl 23 _ rfl w.heap.size 0 32 32 5 key rfl HK.out Try.underlying23 (by kernel_rfl) ?_ | refine wpList_load_byt rfl 40 _ rfl w.heap.size 32 12 12 5 nonce rfl HN.out Try.underlying40 (by kernel_rfl) ?_)
  have hb0 : Below w.heap.size w (w.alloc (.cells (s.map bv).toArray 64)) := (Below.refl _ _).alloc (Nat.le_refl _) _
  refine (stream_own key nonce 1#32 a len cap l _ hs.k hs.n (HB.out.later hb0) hlm hlc hcm).mono ?_
  rintro e w1 ⟨v1, rfl, hb1, own1⟩
  have HO : Hid (w1.ownsRow w.heap.size 5 1 v1 len ((stm key 1#32 nonce l).map bv)) := own_lower own1 (by simp)
  have HW : Hid (Below w.heap.size w w1) := hb0.trans (hb1.mono (by simp))
  clear hb0 hb1 own1 HK HN HB
  go_wp2
  go_ret
  exact ⟨_, rfl, HW.out, HO.out⟩

set_option maxHeartbeats 400000 in
set_option maxRecDepth 100000 in
theorem pfill_any (a : Option Addr) (len cap : Nat) (l : List UInt8) (w : World) (B : Nat) (hb : B ≤ w.heap.size) (hO : w.ownsRow B 5 1 (.slice a len cap) len (l.map bv)) (hlm : len ≤ 10000) :
    Calls Try.prog 49 #[.slice a len cap] w fun e w' => ∃ v, e = .returned v ∧ Below B w w' ∧ w'.ownsRow B 5 1 v (len + padN len) ((pad16 l).map bv) := by
  have hl : l.length = len := by have := hO.1; rwa [List.length_map, Nat.mul_one] at this
  have HO1 : Hid (w.ownsRow B 5 1 (.slice a len cap) len ((l ++ List.replicate 0 0).map bv)) := by show World.ownsRow _ _ _ _ _ _ _; simpa using hO
  have HW1 : Hid (Below B w w) := Below.refl _ _
  clear hO
  go_enter Try.func49, Try.ntmps49
  go_wp2
  go_loopw [0] (fun v wr => ∃ (j n c : Nat) (a' : Option Addr), j ≤ padN len ∧ n = len + j ∧ v = .slice a' n c ∧ Hid (wr.ownsRow B 5 1 (.slice a' n c) n ((l ++ List.replicate j 0).map bv)) ∧ Hid (Below B w wr)) (fun v _ => match v with | .slice _ n _ => len + padN len - n | _ => 0)
  case atStart => exact ⟨0, len, cap, a, Nat.zero_le _, rfl, rfl, HO1, HW1⟩
  case round =>
    clear HO1 HW1
    obtain ⟨j, n, c, a', hj, hn, rfl, hO, hW⟩ := hrel
    by_cases hlt : j < padN len
    · have hr : (n : Int).tmod 16 = ((n % 16 : Nat) : Int) := by rw [Int.tmod_eq_emod_of_nonneg (by omega)]; omega
      have hne : ¬ ((n % 16 : Nat) : Int) = 0 := by unfold padN at hlt; omega
      obtain ⟨r, hr2⟩ : ∃ r, n % 16 = r := ⟨_, rfl⟩
      rw [hr2] at hr hne
      have hr3 : (n : Int) % 16 = (r : Int) := by omega
      have hone : Byt (wr.alloc (.cells #[.int .u8 0] 5)) (some ⟨wr.heap.size, 0, none⟩) 1 [0] := byt_lit _ [0] wr.heap.size _ _ _ (heap_alloc_new wr _) rfl
      have hsz := hW.out.size
      obtain ⟨v2, w2, hap2, own2, hg2⟩ := append_bytes (wr.alloc (.cells #[.int .u8 0] 5)) B _ n _ (hO.out.alloc _) ⟨wr.heap.size, 0, none⟩ 1 1 [0] hone (by simp; omega) (by unfold padN at hlt; omega)
      rw [← pad_to] at own2
      obtain ⟨a2, c2, rfl, _, _, _, _⟩ := own_parts own2
      have HA2 : Hid ((Builtin.append_ #[24, 24] 24 #[.slice a' n c, .slice (some ⟨wr.heap.size, 0, none⟩) 1 1]).run Try.prog (wr.alloc (.cells #[.int .u8 0] 5)) = .ok (.slice a2 (n + 1) c2) w2) := hap2
      have HO2 : Hid (w2.ownsRow B 5 1 (.slice a2 (n + 1) c2) (n + 1) ((l ++ List.replicate (j + 1) 0).map bv)) := own2
      have HW2 : Hid (Below B w w2) := (hW.out.alloc (Nat.le_trans hb hsz) _).grown hg2 (by simp; omega) (fun k hk => (hO.out.lt k hk).1)
      have HN : Hid (n + 1 = len + (j + 1)) := by show _ = _; omega
      have HM : Hid (len + padN len - (n + 1) < len + padN len - n) := by show _ < _; omega
      clear hap2 own2 hg2 hone hO hW hn hr2
      go_wp2_with (at_builtin; refine wpList_append_run rfl (.tmp 7) (.tmp 8) 24 rfl _ _ _ _ rfl rfl HA2.out ?_)
      exact ⟨⟨j + 1, n + 1, c2, a2, by omega, HN.out, rfl, HO2, HW2⟩, by simpa using HM.out⟩
    · have ej : j = padN len := by omega
      have hr3 : (n : Int) % 16 = 0 := by
        have := pad16_mod l
        rw [hl] at this
        omega
      have hr : (n : Int).tmod 16 = 0 := by rw [Int.tmod_eq_emod_of_nonneg (by omega)]; exact hr3
      have HO : Hid (wr.ownsRow B 5 1 (.slice a' n c) (len + padN len) ((pad16 l).map bv)) := by
        have h1 := hO.out
        unfold pad16
        rw [hl, ← ej, ← hn]
        exact h1
      clear hn ej hO
      go_wp2
      go_ret
      exact ⟨_, rfl, hW.out, HO.out⟩

set_option maxHeartbeats 400000 in
set_option maxRecDepth 100000 in
theorem length_any (a : Option Addr) (len cap : Nat) (w : World) (hlm : len ≤ 1000000) :
    Calls Try.prog 50 #[.slice a len cap] w fun e w' => ∃ g, e = .returned (.slice (some ⟨g, 0, none⟩) 8 8) ∧ w.heap.size ≤ g ∧ Below w.heap.size w w' ∧ Byt w' (some ⟨g, 0, none⟩) 8 (leB 8 len) := by
  have hwr : IntKind.u64.wrap (len : Int) = (len : Int) := by rw [IntKind.wrap_u64]; omega
  go_enter Try.func50, Try.ntmps50
  go_wp2_with fail
  refine (put_any none 0 0 8 len false [] _ (by omega) ⟨rfl, .inl rfl⟩ 8 (by decide)).mono ?_
  rintro e w1 ⟨g, rfl, hg, hb, hB⟩
  rw [Nat.zero_add] at hB ⊢
  have HB : Hid (Byt w1 (some ⟨g, 0, none⟩) 8 (leB 8 len)) := hB
  have HW : Hid (Below w.heap.size w w1) := hb
  clear hb hB
  go_wp2
  go_ret
  exact ⟨g, rfl, hg, HW.out, HB.out⟩

theorem key_info (l : List UInt8) (hl : l.length = 32) : (Try.prog.info? 23).map (·.size) = some (l.map bv).toArray.size := by
  have e1 : (Try.prog.info? 23).map (·.size) = some 32 := by kernel_rfl
  rw [e1]; simp [hl]

set_option maxHeartbeats 400000 in
set_option maxRecDepth 100000 in
theorem tagKey_any (s key nonce : List UInt8) (hs : IsSealer s key nonce) (w : World) :
    Calls Try.prog 51 #[.agg (s.map bv).toArray] w fun e w' => e = .returned (.agg (((blk key 0#32 nonce).take 32).map bv).toArray) ∧ Below w.heap.size w w' := by
  obtain ⟨a1, a0⟩ := arr_new2 w 64 s (List.replicate 32 0) 23
  have b1 : Below w.heap.size w ((w.alloc (.cells (s.map bv).toArray 64)).alloc (.cells ((List.replicate 32 0).map bv).toArray 23)) := ((Below.refl _ _).alloc (Nat.le_refl _) _).alloc (by simp) _
  have HK : Hid (Byt ((w.alloc (.cells (s.map bv).toArray 64)).alloc (.cells ((List.replicate 32 0).map bv).toArray 23)) (some ⟨w.heap.size, 0, none⟩) 32 key) := hs.key a0
  have HN : Hid (Byt ((w.alloc (.cells (s.map bv).toArray 64)).alloc (.cells ((List.replicate 32 0).map bv).toArray 23)) (some ⟨w.heap.size, 32, none⟩) 12 nonce) := hs.nonce a0
  have HA : Hid (Arr ((w.alloc (.cells (s.map bv).toArray 64)).alloc (.cells ((List.replicate 32 0).map bv).toArray 23)) (w.heap.size + 1) 23 (List.replicate 32 0)) := a1
  have HW : Hid (Below w.heap.size w ((w.alloc (.cells (s.map bv).toArray 64)).alloc (.cells ((List.replicate 32 0).map bv).toArray 23))) := b1
  clear a1 a0 b1
  go_enter Try.func51, Try.ntmps51
  go_wp2_with (first | refine wpList_load_byt rfl 23 _ rfl w.heap.size 0 32 32 5 key rfl HK.out Try.underlying23 (by kernel_rfl) ?_ | refine wpList_load_byt rfl 40 _ rfl w.heap.size 32 12 12 5 nonce rfl HN.out Try.underlying40 (by kernel_rfl) ?_)
  refine from_world (P := fun W => Calls Try.prog _ _ W _) (R := fun W => Hid (Arr W (w.heap.size + 1) 23 (List.replicate 32 0)) ∧ Hid (Below w.heap.size w W)) _ ⟨HA, HW⟩ ?_
  rintro W0 ⟨HA0, HW0⟩
  clear HK HN HA HW
  refine (block_any key nonce 0#32 W0 hs.k hs.n).mono ?_
  rintro e w1 ⟨rfl, hb1⟩
  obtain ⟨B, hBe⟩ : ∃ B, blk key 0#32 nonce = B := ⟨_, rfl⟩
  have hBl : B.length = 64 := by rw [← hBe]; exact blk_length key _ nonce
  rw [hBe]
  have hst := run_store_new64 w1 B hBl
  obtain ⟨W1, hW1⟩ : ∃ W, w1.alloc (.cells (B.map bv).toArray 70) = W := ⟨_, rfl⟩
  have hb2 : Below W0.heap.size W0 W1 := by rw [← hW1]; exact hb1.alloc hb1.size _
  have HX : Hid (Byt W1 (some ⟨w1.heap.size, 0, none⟩) 32 (B.take 32)) := by rw [← hW1]; exact ((Arr.new w1 70 B).byt 64 hBl).cut (by omega)
  rw [hW1] at hst
  have hA1 := HA0.out.later hb2
  have hB1 : Below w.heap.size w W1 := HW0.out.trans (hb2.mono HW0.out.size)
  obtain ⟨C, hC⟩ : ∃ C, B.take 32 = C := ⟨_, rfl⟩
  have hCl : C.length = 32 := by rw [← hC]; simp; omega
  rw [hC] at HX
  have hst2 := store_row W1 (w.heap.size + 1) _ _ (C.map bv) hA1 (by simp [hCl]) (bv_oneCell C)
  have hrow := setRow_heap W1 (w.heap.size + 1) _ (C.map bv).toArray _ _ hA1
  have HBel : Hid (Below w.heap.size w (W1.setRow (w.heap.size + 1) (C.map bv).toArray)) := below_setRow hB1 (by omega) _
  obtain ⟨W2, hW2⟩ : ∃ W2, W1.setRow (w.heap.size + 1) (C.map bv).toArray = W2 := ⟨_, rfl⟩
  rw [hW2] at hst2 hrow HBel
  have HRow : Hid (W2.heap[w.heap.size + 1]? = some (.cells (C.map bv).toArray 23 (0, 0))) := hrow
  have IC : Hid ((Try.prog.info? 23).map (·.size) = some (C.map bv).toArray.size) := key_info C hCl
  have HC : Hid ((blk key 0#32 nonce).take 32 = C) := by rw [hBe]; exact hC
  have hat : (Instr.arrayAt 23 (.slice (some ⟨w1.heap.size, 0, none⟩) 32 64)).run Try.prog W1 = .ok (.pointer (some ⟨w1.heap.size, 0, none⟩)) W1 := by simp [Instr.arrayAt, run_underlying Try.underlying23]
  clear hrow hW2 hW1 hA1 hB1 hb1 hb2 HA0 HW0 hBe hC
  go_wp2_with (first | refine wpList_load_byt rfl 23 _ rfl w1.heap.size 0 32 32 5 C rfl HX.out Try.underlying23 (by kernel_rfl) ?_)
  (try simp only [Exit.inBlock, Exit.then])
  refine bodyPost_ret (results_cell_row rfl _ _ (w.heap.size + 1) 23 _ (0, 0) _ rfl HRow.out Try.underlying23 rfl IC.out) rfl ?_
  exact ⟨by rw [HC.out], HBel.out⟩
end Go.Proofs.Ytcnihgjibiidpaa
