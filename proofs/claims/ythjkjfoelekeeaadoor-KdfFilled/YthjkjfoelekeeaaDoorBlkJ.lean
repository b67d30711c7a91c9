/- The walks over the program's Sum of a hash, and Sum (blake). -/
import Derived.Test.YthjkjfoelekeeaaDoorBlkI
namespace Go.Proofs.YthjkjfoelekeeaaDoor
set_option linter.unusedVariables false
open Go.RowKit

/-- 'clear' of a part of a row. -/
theorem run_clear_row {P : Program} (w : World) (t e ty : TypeId) (z : Value) (ht : P.underlying t = some (.slice e)) (hv : ∀ w, (zeroValue e).run P w = .ok z w) (hz : z.cells = #[z]) (h1 : z.oneCell' = true) (b o n c : Nat) (hn : 0 < n)
    (cur : Array Value) (et : TypeId) (hg : w.heap[b]? = some (.cells cur et (0, 0))) (hfit : o + n ≤ cur.size) :
    (Builtin.clear_ #[t] ty #[.slice (some ⟨b, o, none⟩) n c]).run P w = .ok (.tuple #[]) (w.setRow b (cur.toList.take o ++ List.replicate n z ++ cur.toList.drop (o + n)).toArray) := by
  have hzc : (Builtin.zeroCells z.cells n).toList = List.replicate n z := by
    rw [hz]
    simp [Builtin.zeroCells]
    apply List.ext_getElem
    · simp
    · intro i h1 h2
      simp [Nat.mod_one]
  have hst := run_storeCells_part (P := P) b o et (List.replicate n z) 0 cur w hg (by simpa using hfit) (by intro v hv'; rw [List.eq_of_mem_replicate hv']; exact h1)
  simp only [Nat.add_zero, List.length_replicate] at hst
  obtain ⟨m, rfl⟩ : ∃ m, n = m + 1 := ⟨n - 1, by omega⟩
  simp [Builtin.clear_, run_underlying ht, hv, hzc, hst]
theorem blast_of (C p : List UInt8) (a : Nat) (ha : bahead C.length = a) (hlo : 64 * a ≤ C.length) (eq : p.take (C.length - 64 * a) = C.drop (64 * a)) : p.take (C.length - 64 * a) ++ List.replicate (64 - (C.length - 64 * a)) 0 = blast C := by
  unfold blast
  rw [ha, eq]
/-- While a sum is told. -/
structure Sh (w : World) (g : Nat) (m : List (BitVec 32)) (t : Nat) (p : List UInt8) (h : Nat) (q : List UInt8) (W : World) : Prop where
  hs : Hs W g m t p h
  res : W.heap[w.heap.size]? = some (.cells zero32B 25 (0, 0))
  last : Arr W (w.heap.size + 1) 53 q
  bel : Below w.heap.size w W
theorem Sh.later {w W W' : World} {g : Nat} {m : List (BitVec 32)} {t : Nat} {p : List UInt8} {h : Nat} {q : List UInt8} (x : Sh w g m t p h q W) (hb : Below W.heap.size W W') : Sh w g m t p h q W' :=
  ⟨x.hs.later hb, by rw [hb.block _ (Array.getElem?_eq_some_iff.1 x.res).1]; exact x.res, x.last.later hb, x.bel.trans (hb.mono x.bel.size)⟩

set_option maxHeartbeats 2000000 in
set_option maxRecDepth 100000 in
theorem bhsum_any (g : Nat) (C : List UInt8) (w : World) (hH : HashIs w g C) (hsm : C.length ≤ 1000000000) (htab : Tab w) :
    Calls Tryd.prog 22 #[.pointer (some ⟨g, 0, none⟩)] w fun e w' => e = .returned (.agg ((blakeB C).map bv).toArray) ∧ Below w.heap.size w w' := by
  obtain ⟨a, p, ha, hX⟩ := hH
  obtain ⟨h, hh⟩ : ∃ h, C.length - 64 * a = h := ⟨_, rfl⟩
  have hlo := hX.lo
  have hhi := hX.hi
  have hp64 := hX.hs.p64
  have hS := hX.hs
  have hL := blast_of C p a ha hlo hX.eq
  rw [hh] at hS hL
  obtain ⟨T, hT⟩ : ∃ T, C.length = T := ⟨_, rfl⟩
  obtain ⟨mm, hmm⟩ : ∃ mm, bparts C a = mm := ⟨_, rfl⟩
  rw [hT, hmm] at hS
  obtain ⟨L, hLL⟩ : ∃ L, blast C = L := ⟨_, rfl⟩
  rw [hLL] at hL
  have hLl : L.length = 64 := by rw [← hLL, blast_length]
  have HR : Hid (blakeB C = wordsB (bpart mm L T true)) := by
    show _ = _
    rw [blakeB, ha, hmm, hLL, hT]
  have hh64 : h ≤ 64 := by omega
  have hTl : T < 18446744073709551616 := by omega
  have HTab : Hid (Tab w) := htab
  have hgl := hS.lt
  have HS : Hid (Hs w g mm T p h) := hS
  have HL : Hid (p.take h ++ List.replicate (64 - h) 0 = L) := hL
  have hmml := hS.m8
  have IM : Hid ((Tryd.prog.info? 52).map (·.size) = some (mm.map uv).length) := by
    have e1 : (Tryd.prog.info? 52).map (·.size) = some 8 := by kernel_rfl
    show _ = _
    rw [e1]; simp [hmml]
  have IP : Hid ((Tryd.prog.info? 53).map (·.size) = some (p.map bv).length) := by
    have e1 : (Tryd.prog.info? 53).map (·.size) = some 64 := by kernel_rfl
    show _ = _
    rw [e1]; simp [hp64]
  have IL : Hid ((Tryd.prog.info? 53).map (·.size) = some (L.map bv).toArray.size) := info_size (n := 64) (by kernel_rfl) L hLl
  obtain ⟨R, hR⟩ : ∃ R, wordsB (bpart mm L T true) = R := ⟨_, rfl⟩
  have hRl : R.length = 32 := by rw [← hR, wordsB_length, bpart_length]
  have HRR : Hid (wordsB (bpart mm L T true) = R) := hR
  have IR : Hid ((Tryd.prog.info? 25).map (·.size) = some (R.map bv).toArray.size) := info_size (n := 32) (by kernel_rfl) R hRl
  -- the worlds ahead of the region
  have HS1 : Hid (Hs (w.alloc (.cells zero32B 25)) g mm T p h) := HS.out.later ((Below.refl _ _).alloc (Nat.le_refl _) _)
  have hst := run_store_arr (w.alloc (.cells zero32B 25)) 53 p 64 hp64 (by kernel_rfl)
  rw [World.size_alloc] at hst
  have hb2 : Below w.heap.size w ((w.alloc (.cells zero32B 25)).alloc (.cells (p.map bv).toArray 53)) := ((Below.refl _ _).alloc (Nat.le_refl _) _).alloc (by simp) _
  have hX2 : Sh w g mm T p h p ((w.alloc (.cells zero32B 25)).alloc (.cells (p.map bv).toArray 53)) := by
    refine ⟨HS.out.later hb2, ?_, ?_, hb2⟩
    · rw [Below.heap_alloc _ _ _ (by simp)]; exact heap_alloc_new w _
    · have := Arr.new (w.alloc (.cells zero32B 25)) 53 p
      rwa [World.size_alloc] at this
  obtain ⟨W2, hW2⟩ : ∃ W2, (w.alloc (.cells zero32B 25)).alloc (.cells (p.map bv).toArray 53) = W2 := ⟨_, rfl⟩
  rw [hW2] at hX2 hst
  simp only [zero32B, List.replicate] at hst
  have HX2 : Hid (Sh w g mm T p h p W2) := hX2
  obtain ⟨ch, _⟩ := hX2.hs.held
  have hhi' : (h : Int) ≤ 64 := by omega
  clear hX hS hL hb2 hX2 hW2 hh hT hmm hLL ha htab hlo hhi hR
  go_enter Tryd.func22, Tryd.ntmps22
  by_cases hf : 64 = h
  · have hclr0 : (Builtin.clear_ #[22] 0 #[.slice (some ⟨w.heap.size + 1, 0, none⟩) 0 0]).run Tryd.prog W2 = .ok (.tuple #[]) W2 := by
      simp [Builtin.clear_, run_underlying Tryd.underlying22]
    have e1 : L = p := by rw [← HL.out, ← hf, List.take_of_length_le (by omega)]; simp
    obtain ⟨W3, hW3⟩ : ∃ W3, W2 = W3 := ⟨_, rfl⟩
    have HX3 : Hid (Sh w g mm T p h L W3) := by rw [← hW3, e1]; exact HX2.out
    have hclr : (Builtin.clear_ #[22] 0 #[.slice (some ⟨w.heap.size + 1, 0, none⟩) 0 0]).run Tryd.prog W2 = .ok (.tuple #[]) W3 := by rw [hclr0, hW3]
    clear e1 hW3 hclr0
    go_wp2_with (first | refine wpList_load_part rfl 53 _ rfl g 9 rfl (p.map bv) _ HS1.out.last Tryd.underlying53 rfl IP.out ?_)
    clear hst hclr HS1 HX2 ch IP
    obtain ⟨W, hWd⟩ : ∃ W, W3.drew = W := ⟨_, rfl⟩
    have HWd : Hid (W3.drew = W) := hWd
    have HXW : Hid (Sh w g mm T p h L W) := HX3.out.later (by rw [← hWd]; exact (Below.refl _ _).drew)
    have HTW : Hid (Tab W) := HTab.out.below HXW.out.bel HTab.out.lt
    clear hWd HX3
    refine wp_region_last (G := Grows) (by kernel_rfl) Grows.refl Grows.trans (by kernel_rfl) [(0, true), (1, true), (2, true), (3, true), (4, true), (5, true), (6, true), (7, true), (8, true), (9, false), (10, false)] 11 _ rfl ((Array.replicate 12 false).mapIdx fun i _ => i < 11) rfl (by kernel_rfl) (by kernel_rfl) (by kernel_rfl) (by kernel_rfl) ?_
    intro KK hKK
    rw [HWd.out]
    iterate 3 (refine sched_take rfl (by rfl) (v := ?_) ?_ ?_; rotate_left; (intro w' hw'; clear hw'; go_simp; with_reducible rfl); go_simp)
    refine sched_take rfl (by rfl) (v := .agg (mm.map uv).toArray) (fun w' hw' => exec_load_part 52 _ rfl g 0 rfl (mm.map uv) _ (HXW.out.hs.later hw').made Tryd.underlying52 rfl IM.out) ?_
    go_simp
    refine sched_take rfl (by rfl) (v := .agg (L.map bv).toArray) (fun w' hw' => exec_load_row 53 _ rfl (w.heap.size + 1) rfl 53 _ (0, 0) _ (HXW.out.last.later hw') Tryd.underlying53 rfl IL.out) ?_
    go_simp
    iterate 4 (refine sched_take rfl (by rfl) (v := ?_) ?_ ?_; rotate_left; (intro w' hw'; have ct := (HXW.out.hs.later hw').told.1; clear hw'; go_simp; with_reducible rfl); go_simp)
    refine sched_call (f := 26) (args := #[.agg (mm.map uv).toArray, .agg (L.map bv).toArray, .int .u64 (T : Int), .bool true]) rfl (by rfl) (by go_simp) ?_
    refine (bwith_any mm L T true W hmml hLl HTW.out hTl).mono ?_
    rintro e w8 ⟨rfl, hb8⟩
    refine ⟨_, rfl, hb8, ?_⟩
    obtain ⟨Z, hZ⟩ : ∃ Z, bpart mm L T true = Z := ⟨_, rfl⟩
    have hZl : Z.length = 8 := by rw [← hZ, bpart_length]
    rw [hZ]
    have HX8 : Hid (Sh w g mm T p h L w8) := HXW.out.later hb8
    have HZR : Hid (wordsB Z = R) := by rw [← hZ]; exact HRR.out
    clear HXW HTW hb8 hZ HWd
    go_simp
    refine sched_call (f := 27) (args := #[.agg (Z.map uv).toArray]) rfl (by rfl) (by go_simp) ?_
    refine (bkey_any Z w8 hZl).mono ?_
    rintro e w9 ⟨rfl, hb9⟩
    refine ⟨_, rfl, hb9, ?_⟩
    rw [HZR.out]
    have HX9 := HX8.out.later hb9
    have hst9 := store_row w9 w.heap.size _ _ (R.map bv) HX9.res (by simp [hRl, zero32B]) (bv_oneCell R)
    have hrow := setRow_heap w9 w.heap.size _ (R.map bv).toArray _ _ HX9.res
    have HBel : Hid (Below w.heap.size w (w9.setRow w.heap.size (R.map bv).toArray)) := below_setRow HX9.bel (Nat.le_refl _) _
    obtain ⟨W4, hW4⟩ : ∃ W4, w9.setRow w.heap.size (R.map bv).toArray = W4 := ⟨_, rfl⟩
    rw [hW4] at hst9 hrow HBel
    have HRow : Hid (W4.heap[w.heap.size]? = some (.cells (R.map bv).toArray 25 (0, 0))) := hrow
    clear hrow hW4 HX8 HX9 hb9 HZR
    go_simp
    refine hKK.out _ _ W4 (by rfl) (by go_simp) ?_
    clear hst9
    go_simp
    (try go_wp2)
    (try simp only [Exit.inBlock, Exit.then])
    refine bodyPost_ret (results_cell_row rfl _ _ w.heap.size 25 _ (0, 0) _ rfl HRow.out Tryd.underlying25 rfl IR.out) rfl ?_
    exact ⟨by rw [HR.out, HRR.out], HBel.out⟩
  · have hn : 0 < 64 - h := by omega
    have hclr := run_clear_row (P := Tryd.prog) W2 22 5 0 (.int .u8 0) Tryd.underlying22 (fun w => by rfl) rfl rfl (w.heap.size + 1) h (64 - h) (64 - h) hn _ _ HX2.out.last (by simp [hp64]; omega)
    have e1 : (p.map bv).toArray.toList.take h ++ List.replicate (64 - h) (Value.int .u8 0) ++ (p.map bv).toArray.toList.drop (h + (64 - h)) = L.map bv := by
      rw [← HL.out, List.map_append, List.map_replicate, List.map_take, show h + (64 - h) = 64 by omega]
      dsimp only
      rw [List.drop_eq_nil_of_le (by simp [hp64]), List.append_nil]
      rfl
    rw [e1] at hclr
    obtain ⟨W3, hW3⟩ : ∃ W3, W2.setRow (w.heap.size + 1) (L.map bv).toArray = W3 := ⟨_, rfl⟩
    have HX3 : Hid (Sh w g mm T p h L W3) := by
      rw [← hW3]
      refine ⟨⟨?_, HX2.out.hs.m8, HX2.out.hs.p64⟩, ?_, setRow_heap _ _ _ _ _ _ HX2.out.last, below_setRow HX2.out.bel (by omega) _⟩
      · rw [setRow_other _ _ _ _ (by omega)]; exact HX2.out.hs.row
      · rw [setRow_other _ _ _ _ (by omega)]; exact HX2.out.res
    rw [hW3] at hclr
    clear e1 hW3 hn
    go_wp2_with (first | refine wpList_load_part rfl 53 _ rfl g 9 rfl (p.map bv) _ HS1.out.last Tryd.underlying53 rfl IP.out ?_)
    clear hst hclr HS1 HX2 ch IP
    obtain ⟨W, hWd⟩ : ∃ W, W3.drew = W := ⟨_, rfl⟩
    have HWd : Hid (W3.drew = W) := hWd
    have HXW : Hid (Sh w g mm T p h L W) := HX3.out.later (by rw [← hWd]; exact (Below.refl _ _).drew)
    have HTW : Hid (Tab W) := HTab.out.below HXW.out.bel HTab.out.lt
    clear hWd HX3
    refine wp_region_last (G := Grows) (by kernel_rfl) Grows.refl Grows.trans (by kernel_rfl) [(0, true), (1, true), (2, true), (3, true), (4, true), (5, true), (6, true), (7, true), (8, true), (9, false), (10, false)] 11 _ rfl ((Array.replicate 12 false).mapIdx fun i _ => i < 11) rfl (by kernel_rfl) (by kernel_rfl) (by kernel_rfl) (by kernel_rfl) ?_
    intro KK hKK
    rw [HWd.out]
    iterate 3 (refine sched_take rfl (by rfl) (v := ?_) ?_ ?_; rotate_left; (intro w' hw'; clear hw'; go_simp; with_reducible rfl); go_simp)
    refine sched_take rfl (by rfl) (v := .agg (mm.map uv).toArray) (fun w' hw' => exec_load_part 52 _ rfl g 0 rfl (mm.map uv) _ (HXW.out.hs.later hw').made Tryd.underlying52 rfl IM.out) ?_
    go_simp
    refine sched_take rfl (by rfl) (v := .agg (L.map bv).toArray) (fun w' hw' => exec_load_row 53 _ rfl (w.heap.size + 1) rfl 53 _ (0, 0) _ (HXW.out.last.later hw') Tryd.underlying53 rfl IL.out) ?_
    go_simp
    iterate 4 (refine sched_take rfl (by rfl) (v := ?_) ?_ ?_; rotate_left; (intro w' hw'; have ct := (HXW.out.hs.later hw').told.1; clear hw'; go_simp; with_reducible rfl); go_simp)
    refine sched_call (f := 26) (args := #[.agg (mm.map uv).toArray, .agg (L.map bv).toArray, .int .u64 (T : Int), .bool true]) rfl (by rfl) (by go_simp) ?_
    refine (bwith_any mm L T true W hmml hLl HTW.out hTl).mono ?_
    rintro e w8 ⟨rfl, hb8⟩
    refine ⟨_, rfl, hb8, ?_⟩
    obtain ⟨Z, hZ⟩ : ∃ Z, bpart mm L T true = Z := ⟨_, rfl⟩
    have hZl : Z.length = 8 := by rw [← hZ, bpart_length]
    rw [hZ]
    have HX8 : Hid (Sh w g mm T p h L w8) := HXW.out.later hb8
    have HZR : Hid (wordsB Z = R) := by rw [← hZ]; exact HRR.out
    clear HXW HTW hb8 hZ HWd
    go_simp
    refine sched_call (f := 27) (args := #[.agg (Z.map uv).toArray]) rfl (by rfl) (by go_simp) ?_
    refine (bkey_any Z w8 hZl).mono ?_
    rintro e w9 ⟨rfl, hb9⟩
    refine ⟨_, rfl, hb9, ?_⟩
    rw [HZR.out]
    have HX9 := HX8.out.later hb9
    have hst9 := store_row w9 w.heap.size _ _ (R.map bv) HX9.res (by simp [hRl, zero32B]) (bv_oneCell R)
    have hrow := setRow_heap w9 w.heap.size _ (R.map bv).toArray _ _ HX9.res
    have HBel : Hid (Below w.heap.size w (w9.setRow w.heap.size (R.map bv).toArray)) := below_setRow HX9.bel (Nat.le_refl _) _
    obtain ⟨W4, hW4⟩ : ∃ W4, w9.setRow w.heap.size (R.map bv).toArray = W4 := ⟨_, rfl⟩
    rw [hW4] at hst9 hrow HBel
    have HRow : Hid (W4.heap[w.heap.size]? = some (.cells (R.map bv).toArray 25 (0, 0))) := hrow
    clear hrow hW4 HX8 HX9 hb9 HZR
    go_simp
    refine hKK.out _ _ W4 (by rfl) (by go_simp) ?_
    clear hst9
    go_simp
    (try go_wp2)
    (try simp only [Exit.inBlock, Exit.then])
    refine bodyPost_ret (results_cell_row rfl _ _ w.heap.size 25 _ (0, 0) _ rfl HRow.out Tryd.underlying25 rfl IR.out) rfl ?_
    exact ⟨by rw [HR.out, HRR.out], HBel.out⟩

set_option maxHeartbeats 1000000 in
set_option maxRecDepth 100000 in
theorem bsum_any (a : Option Addr) (len cap : Nat) (l : List UInt8) (w : World) (hB : Byt w a len l) (hnil : a = none → cap = 0) (hlc : len ≤ cap) (hcm : cap ≤ maxLen) (hsm : len ≤ 1000000000) (htab : Tab w) :
    Calls Tryd.prog 13 #[.slice a len cap] w fun e w' => e = .returned (.agg ((blakeB l).map bv).toArray) ∧ Below w.heap.size w w' := by
  have hl : l.length = len := hB.1
  have HTab : Hid (Tab w) := htab
  have HB : Hid (Byt w a len l) := hB
  obtain ⟨R, hR⟩ : ∃ R, blakeB l = R := ⟨_, rfl⟩
  have hRl : R.length = 32 := by rw [← hR, blakeB_length]
  have HR : Hid (blakeB l = R) := hR
  have IR : Hid ((Tryd.prog.info? 25).map (·.size) = some (R.map bv).toArray.size) := info_size (n := 32) (by kernel_rfl) R hRl
  have hb0 : Below w.heap.size w (w.alloc (.cells zero32B 25)) := (Below.refl _ _).alloc (Nat.le_refl _) _
  have hres := heap_alloc_new w (.cells zero32B 25)
  have HT0 : Hid (Tab (w.alloc (.cells zero32B 25))) := HTab.out.later hb0
  have HW0 : Hid (Below w.heap.size w (w.alloc (.cells zero32B 25)) ∧ (w.alloc (.cells zero32B 25)).heap[w.heap.size]? = some (.cells zero32B 25 (0, 0)) ∧ Tab (w.alloc (.cells zero32B 25))) := ⟨hb0, hres, HT0.out⟩
  clear hR htab hB hb0 hres HT0
  go_enter Tryd.func13, Tryd.ntmps13
  go_wp2_with fail
  refine from_world (P := fun W => Calls Tryd.prog 20 #[] W _) (R := fun W => Hid (Below w.heap.size w W ∧ W.heap[w.heap.size]? = some (.cells zero32B 25 (0, 0)) ∧ Tab W)) _ HW0 ?_
  intro W0 hW0
  clear HW0
  refine (bnew_any W0 hW0.out.2.2).mono ?_
  rintro e w1 ⟨g, rfl, hg, hH1, hb1⟩
  obtain ⟨hb0, hres0, htab0⟩ := hW0.out
  have hsz0 : w.heap.size < W0.heap.size := (Array.getElem?_eq_some_iff.1 hres0).1
  have hlt0 := htab0.lt
  have HT1 : Hid (Tab w1) := htab0.later hb1
  have HH1 : Hid (HashIs w1 g []) := hH1
  have HB1 : Hid (Byt w1 a len l) := HB.out.later (hb0.trans (hb1.mono hb0.size))
  have HO1 : Hid (0 < len → ∀ b o f, a = some ⟨b, o, f⟩ → b ≠ g) := by
    intro hn b o f e
    rcases HB.out.2 with h | ⟨b', o', e', hc⟩
    · omega
    · rw [e'] at e
      cases e
      have := HB.out
      rw [e'] at this
      have := this.lt hn
      omega
  have HBel1 : Hid (Below w.heap.size w w1) := hb0.trans (hb1.mono hb0.size)
  have HRes1 : Hid (w1.heap[w.heap.size]? = some (.cells zero32B 25 (0, 0))) := by
    show _ = _
    rw [hb1.block _ hsz0]; exact hres0
  have hgw : w.heap.size ≠ g := by omega
  have hgw' : w.heap.size ≤ g := by omega
  have hgt : g ≠ 0 ∧ g ≠ 1 := by omega
  clear hW0 hb0 hres0 htab0 hb1 hH1 hg
  go_wp2_with fail
  refine (bwrite_any g [] a len cap l w1 HH1.out HB1.out hnil HO1.out hlc hcm (by simp; omega) HT1.out hgt).mono ?_
  rintro e w2 ⟨⟨v, rfl⟩, hH2, hG2⟩
  have HH2 : Hid (HashIs w2 g l) := hH2
  have HT2 : Hid (Tab w2) := HT1.out.but hG2 hgt
  have HBel2 : Hid (Below w.heap.size w w2) := HBel1.out.trans ⟨hG2.os, hG2.tape, hG2.output, hG2.size, fun k hk => hG2.block k (by have := HBel1.out.size; omega) (fun e => by cases e; omega)⟩
  have HRes2 : Hid (w2.heap[w.heap.size]? = some (.cells zero32B 25 (0, 0))) := by
    show _ = _
    rw [hG2.block _ (Array.getElem?_eq_some_iff.1 HRes1.out).1 (fun e => hgw (by cases e; rfl))]; exact HRes1.out
  clear hH2 hG2 HBel1 HRes1 HT1 HH1 HO1 HB1
  go_wp2_with fail
  refine (bhsum_any g l w2 HH2.out (by omega) HT2.out).mono ?_
  rintro e w3 ⟨rfl, hb3⟩
  rw [HR.out]
  have hlt3 := (Array.getElem?_eq_some_iff.1 HRes2.out).1
  have hres3 : w3.heap[w.heap.size]? = some (.cells zero32B 25 (0, 0)) := by rw [hb3.block _ hlt3]; exact HRes2.out
  have hst9 := store_row w3 w.heap.size _ _ (R.map bv) hres3 (by simp [hRl, zero32B]) (bv_oneCell R)
  have hrow := setRow_heap w3 w.heap.size _ (R.map bv).toArray _ _ hres3
  have HBel : Hid (Below w.heap.size w (w3.setRow w.heap.size (R.map bv).toArray)) := below_setRow (HBel2.out.trans (hb3.mono HBel2.out.size)) (Nat.le_refl _) _
  obtain ⟨W4, hW4⟩ : ∃ W4, w3.setRow w.heap.size (R.map bv).toArray = W4 := ⟨_, rfl⟩
  rw [hW4] at hst9 hrow HBel
  have HRow : Hid (W4.heap[w.heap.size]? = some (.cells (R.map bv).toArray 25 (0, 0))) := hrow
  clear hrow hW4 hres3 hb3 HBel2 HRes2 HH2 HT2 hlt3
  go_wp2
  (try simp only [Exit.inBlock, Exit.then])
  refine bodyPost_ret (results_cell_row rfl _ _ w.heap.size 25 _ (0, 0) _ rfl HRow.out Tryd.underlying25 rfl IR.out) rfl ?_
  exact ⟨by rw [HR.out], HBel.out⟩
end Go.Proofs.YthjkjfoelekeeaaDoor
