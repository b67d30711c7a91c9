/- Several texts laid together. -/
import Derived.Test.YtdancpcnjklifaaDoorRef1
import Derived.Test.YtdancpcnjklifaaDoorBase
import Derived.Test.YtdancpcnjklifaaDoorRefBx
import Derived.Test.YtdancpcnjklifaaDoorMathX
/- The walk over the document's Xor: whose memory it answers. -/
namespace Go.Proofs.YtdancpcnjklifaaDoor
set_option linter.unusedVariables false
set_option maxRecDepth 100000
open Go.RowKit

set_option maxHeartbeats 400000 in
set_option maxRecDepth 100000 in
theorem refXor_own (a b : Option Addr) (len cap lenb capb : Nat) (l m : List UInt8) (w : World) (hA : Byt w a len l) (hB : Byt w b lenb m) (hla : len ≤ 1000000) (hlb : lenb ≤ 1000000) :
    Calls Tryd.prog 56 #[.slice a len cap, .slice b lenb capb] w fun e w' => ∃ v, e = .returned v ∧ Below w.heap.size w w' ∧ w'.ownsRow w.heap.size 5 1 v (min len lenb) ((xorB l m).map bv) := by
  obtain ⟨n, hn⟩ : ∃ n, n = min len lenb := ⟨_, rfl⟩
  rw [← hn]
  have Hn : Hid (n = min len lenb) := hn
  have hn1 : n ≤ len := by omega
  have hn2 : n ≤ lenb := by omega
  have hn3 : len ≤ n ∨ lenb ≤ n := by omega
  clear hn
  go_enter Tryd.func56, Tryd.ntmps56
  go_wp2
  go_loopw [5, 6] (fun v i wr => ∃ (k : Nat) (v' : Value), k ≤ n ∧ i = .int .i64 k ∧ v' = v ∧ Hid (wr.ownsRow w.heap.size 5 1 v' k (((xorB l m).take k).map bv)) ∧ Below w.heap.size w wr) (fun _ i _ => n - (intOf i).toNat)
  case atStart =>
    exact ⟨0, _, Nat.zero_le _, rfl, rfl, World.ownsRow_made w #[] 0 (Nat.le_refl _) (Nat.zero_le _) rfl, (Below.refl _ _).alloc (Nat.le_refl _) _⟩
  case round =>
    obtain ⟨k, v, hk, rfl, hv, hown, hbel⟩ := hrel
    subst hv
    have hlA := hA.1
    have hlB := hB.1
    by_cases hlt : k < n
    · rcases hA.2 with h0 | ⟨ba, offa, rfl, hca⟩
      · omega
      rcases hB.2 with h0 | ⟨bb, offb, rfl, hcb⟩
      · omega
      have hca' := hca k (by omega)
      have hcb' := hcb k (by omega)
      have hba := World.block_lt_of_cell? w _ hca'
      have hbb := World.block_lt_of_cell? w _ hcb'
      have i1 : (k : Int) < (len : Int) := by omega
      have i2 : (k : Int) < (lenb : Int) := by omega
      go_wp2
      refine wp_region_sched' (G := Below w.heap.size) (by kernel_rfl) (Below.refl _) (fun _ _ _ => Below.trans) (by kernel_rfl) [(0, true), (1, true), (2, true), (3, true), (4, true), (5, true), (6, true), (7, true), (8, true), (9, true), (10, true), (11, true), (12, true), (13, true), (14, true), (15, true), (16, true), (17, true), (18, true), (19, true), (20, false), (21, false), (22, true)] rfl (by kernel_rfl) ?_
      intro KK hKK
      have hwr : Below w.heap.size w wr.drew := hbel.drew
      obtain ⟨W, hW⟩ : ∃ W, wr.drew = W := ⟨_, rfl⟩
      rw [hW]
      rw [hW] at hwr
      have hld1 : ∀ w', Below w.heap.size W w' → w'.cell? ⟨ba, offa + k, none⟩ = some (.int .u8 ((at8 l k).toNat : Int)) := fun w' h => by
        rw [(hwr.trans h).cell (p := ⟨ba, offa + k, none⟩) hba]; exact hca'
      have hld2 : ∀ w', Below w.heap.size W w' → w'.cell? ⟨bb, offb + k, none⟩ = some (.int .u8 ((at8 m k).toNat : Int)) := fun w' h => by
        rw [(hwr.trans h).cell (p := ⟨bb, offb + k, none⟩) hbb]; exact hcb'
      iterate 20 (refine sched_take rfl (by rfl) (v := ?_) ?_ ?_; rotate_left; (intro w' hw'; have q1 := hld1 w' hw'; have q2 := hld2 w' hw'; go_simp; with_reducible rfl); go_simp)
      have hownW : W.ownsRow w.heap.size 5 1 v k (((xorB l m).take k).map bv) := by rw [← hW]; exact hown.out
      have hone : Byt (W.alloc (.cells #[bv (at8 l k ^^^ at8 m k)] 5)) (some ⟨W.heap.size, 0, none⟩) 1 [at8 l k ^^^ at8 m k] := byt_lit _ [_] W.heap.size _ _ _ (heap_alloc_new W _) rfl
      obtain ⟨v2, w2, hap, hs2, hgr⟩ := append_bytes (W.alloc (.cells #[bv (at8 l k ^^^ at8 m k)] 5)) w.heap.size v k _ (hownW.alloc _) ⟨W.heap.size, 0, none⟩ 1 1 _ hone (by have := hwr.size; simp; omega) (by omega)
      have hG2 : Below w.heap.size (W.alloc (.cells #[bv (at8 l k ^^^ at8 m k)] 5)) w2 := (Below.refl _ _).grown hgr (by have := hwr.size; simp; omega) (fun j hj => (hownW.lt j hj).1)
      refine sched_val rfl (by rfl) (v := .slice (some ⟨W.heap.size, 0, none⟩) 1 1) (w' := W.alloc (.cells #[bv (at8 l k ^^^ at8 m k)] 5)) ?_ ((Below.refl _ _).alloc hwr.size _) ?_
      · rw [bv, ← or_sub_and]
        go_simp
      · refine sched_append rfl (by rfl) rfl (by rfl) (by rfl) hap hG2 ?_
        go_simp
        refine sched_take rfl (by rfl) (v := ?_) ?_ ?_
        rotate_left
        · intro w' hw'; go_simp; with_reducible rfl
        go_simp
        have hb2 : Below w.heap.size w w2 := hwr.trans (((Below.refl _ _).alloc hwr.size _).trans hG2)
        have hs3 : Hid (w2.ownsRow w.heap.size 5 1 v2 (k + 1) (((xorB l m).take (k + 1)).map bv)) := by
          rw [take_at _ _ (by rw [xorB_length]; omega), xorB_at _ _ _ (by omega) (by omega)]
          exact hs2
        clear hs2 hap hgr hld1 hld2 hownW hca hcb hG2 hone hown
        refine sched_done hKK ?_
        go_wp2
        exact ⟨⟨k + 1, v2, by omega, by go_num, rfl, hs3, hb2⟩, by simp [intOf]; omega⟩
    · have ek : k = n := by omega
      subst ek
      have hf := hown.out
      rw [List.take_of_length_le (by rw [xorB_length, hlA, hlB, ← Hn.out]; exact Nat.le_refl _)] at hf
      have HF : Hid (wr.ownsRow w.heap.size 5 1 v k ((xorB l m).map bv)) := hf
      clear hf hown
      by_cases hk2 : (k : Int) < (len : Int)
      · have hk3 : ¬ (k : Int) < (lenb : Int) := by omega
        go_wp2
        go_ret
        exact ⟨v, rfl, hbel, HF.out⟩
      · go_wp2
        go_ret
        exact ⟨v, rfl, hbel, HF.out⟩
end Go.Proofs.YtdancpcnjklifaaDoor

/- The walks over the document's Mac and Derive (kdf). -/
namespace Go.Proofs.YtdancpcnjklifaaDoor
set_option linter.unusedVariables false
set_option maxRecDepth 100000
open Go.RowKit

theorem replicate_snoc (n : Nat) (c : UInt8) : List.replicate n c ++ [c] = List.replicate (n + 1) c := by rw [List.replicate_succ']
/-- A key, while 0s are laid behind it. -/
structure KP (w : World) (a : Option Addr) (n cap : Nat) (l : List UInt8) (W : World) : Prop where
  seg : Seg W 5 a n cap (l.map bv)
  isnew : ∀ j, blockOf a = some j → w.heap.size ≤ j
  bel : Below w.heap.size w W
theorem KP.app {w W : World} {a : Option Addr} {n cap : Nat} {l : List UInt8} (t : KP w a n cap l W) (hn : n ≤ 1000) :
    ∃ a' cap' w2, (Builtin.append_ #[29, 29] 29 #[.slice a n cap, .slice (some ⟨W.heap.size, 0, none⟩) 1 1]).run Tryd.prog (W.alloc (.cells #[.int .u8 0] 5)) = .ok (.slice a' (n + 1) cap') w2 ∧ KP w a' (n + 1) cap' (l ++ [0]) w2 := by
  obtain ⟨i0, hi, hz0, hz1, hz2⟩ := info_parts Tryd.infoU8
  obtain ⟨a', cap', w2, hap, hs2, hgr, hfr, hsz2⟩ := append_seg (P := Tryd.prog) 29 29 5 i0 (.int .u8 0) 1 Tryd.underlying29 hi hz0 hz1 hz2 rfl W a n cap _ t.seg (bv 0) rfl (by unfold maxLen; omega) (by omega)
  refine ⟨a', cap', w2, hap, by rw [List.map_append]; exact hs2, ?_, t.bel.grown hgr t.bel.size t.isnew⟩
  intro j hj
  rcases hfr with e | e
  · exact t.isnew j (by rw [← e]; exact hj)
  · have := e j hj; have := t.bel.size; omega
theorem Seg.cap_le {w : World} {e : TypeId} {a : Option Addr} {n cap : Nat} {vs : List Value} (h : Seg w e a n cap vs) : n ≤ cap := by
  rcases h.2 with ⟨_, h1, h2⟩ | ⟨_, _, _, _, _, _, h0, _⟩ <;> omega
end Go.Proofs.YtdancpcnjklifaaDoor

/- The walk over the document's Mac (kdf). -/
namespace Go.Proofs.YtdancpcnjklifaaDoor
set_option linter.unusedVariables false
set_option maxRecDepth 100000
open Go.RowKit

theorem KP.later {w W W' : World} {a : Option Addr} {n cap : Nat} {l : List UInt8} (t : KP w a n cap l W) (hb : Below W.heap.size W W') : KP w a n cap l W' :=
  ⟨t.seg.later hb, t.isnew, t.bel.trans (hb.mono t.bel.size)⟩
end Go.Proofs.YtdancpcnjklifaaDoor

/- The walk over the document's Derive (kdf). -/
namespace Go.Proofs.YtdancpcnjklifaaDoor
set_option linter.unusedVariables false
set_option maxRecDepth 100000
open Go.RowKit

/-- 'append(append([]byte{}, l...), x)'. -/
theorem app_tail (w : World) (a : Option Addr) (len cap : Nat) (l : List UInt8) (hS : Byt w a len l) (hnil : a = none → cap = 0) (hm : len ≤ 5000) (x : UInt8) :
    ∃ v3 w3 v4 w4, (Builtin.append_ #[29, 29] 29 #[.slice (some ⟨w.heap.size, 0, none⟩) 0 0, .slice a len cap]).run Tryd.prog (w.alloc (.cells #[] 5)) = .ok v3 w3 ∧
      (Builtin.append_ #[29, 29] 29 #[v3, .slice (some ⟨w3.heap.size, 0, none⟩) 1 1]).run Tryd.prog (w3.alloc (.cells #[.int .u8 (x.toNat : Int)] 5)) = .ok v4 w4 ∧ w4.ownsRow w.heap.size 5 1 v4 (len + 1) ((l ++ [x]).map bv) ∧ Below w.heap.size w w4 := by
  have hb0 : Below w.heap.size w (w.alloc (.cells #[] 5)) := (Below.refl _ _).alloc (Nat.le_refl _) _
  obtain ⟨v3, w3, hap3, own3, hg3⟩ := append_own_any (w.alloc (.cells #[] 5)) w.heap.size (.slice (some ⟨w.heap.size, 0, none⟩) 0 0) 0 [] (World.ownsRow_made w #[] 0 (Nat.le_refl _) (Nat.zero_le _) rfl) a len cap l (hS.later hb0) hnil (by simp) (by omega)
  have bel3 : Below w.heap.size w w3 := hb0.grown hg3 (by simp) (fun k hk => by simp [Value.ownBlock] at hk; omega)
  have hone : Byt (w3.alloc (.cells #[.int .u8 (x.toNat : Int)] 5)) (some ⟨w3.heap.size, 0, none⟩) 1 [x] := byt_lit _ [x] w3.heap.size _ _ _ (heap_alloc_new w3 _) rfl
  obtain ⟨v4, w4, hap4, own4, hg4⟩ := append_bytes (w3.alloc (.cells #[.int .u8 (x.toNat : Int)] 5)) w.heap.size v3 _ _ (own3.alloc _) ⟨w3.heap.size, 0, none⟩ 1 1 [x] hone (by have := bel3.size; simp; omega) (by omega)
  rw [Nat.zero_add, List.nil_append] at own4
  exact ⟨v3, w3, v4, w4, hap3, hap4, own4, (bel3.alloc bel3.size _).grown hg4 (by have := bel3.size; simp; omega) (fun k hk => (own3.lt k hk).1)⟩
theorem seg_nil {w : World} {a : Option Addr} {cap : Nat} {vs : List Value} {n : Nat} (h : Seg w 5 a n cap vs) (hn : 0 < n) : a = none → cap = 0 := fun e => by
  rcases h.2 with ⟨_, h0, _⟩ | ⟨_, _, _, e2, _⟩
  · omega
  · rw [e] at e2; cases e2
/-- What Derive has: t, and the keys so far. -/
structure DV (w : World) (at_ : Option Addr) (ct : Nat) (t : List UInt8) (W : World) : Prop where
  t : Seg W 5 at_ 32 ct (t.map bv)
  bel : Below w.heap.size w W
theorem DV.later {w W W' : World} {a : Option Addr} {c : Nat} {t : List UInt8} (h : DV w a c t W) (hb : Below W.heap.size W W') : DV w a c t W' := ⟨h.t.later hb, h.bel.trans (hb.mono h.bel.size)⟩

end Go.Proofs.YtdancpcnjklifaaDoor
