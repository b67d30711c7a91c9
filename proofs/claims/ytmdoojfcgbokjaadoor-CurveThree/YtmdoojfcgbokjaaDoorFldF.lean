/- The walks over the program's Bytes, Swap and squares (field). -/
import Derived.Test.YtmdoojfcgbokjaaDoorFldE
import Derived.Test.YtmdoojfcgbokjaaDoorFldD
namespace Go.Proofs.YtmdoojfcgbokjaaDoor
set_option linter.unusedVariables false
open Go.RowKit

/-- Digits as an array in a block. -/
def D5 (w : World) (g : Nat) (l : List Nat) : Prop := w.heap[g]? = some (.cells (l.map nf).toArray 39 (0, 0))
theorem D5.lt {w : World} {g : Nat} {l : List Nat} (h : D5 w g l) : g < w.heap.size := (Array.getElem?_eq_some_iff.1 h).1
theorem D5.later {w w' : World} {g : Nat} {l : List Nat} (h : D5 w g l) (hb : Below w.heap.size w w') : D5 w' g l := by
  unfold D5
  rw [hb.block g h.lt]
  exact h
theorem D5.word {w : World} {g : Nat} {l : List Nat} (h : D5 w g l) (i : Nat) (hi : i < l.length) : w.cell? ⟨g, i, none⟩ = some (.int .u64 (atD l i : Int)) := by
  rw [cell_of_row w g i _ _ (0, 0) h, atD_get l i hi]
  simp [hi, nf]
/-- The one field of an element. -/
theorem run_digits (W : World) (cs : Array Value) (h : cs.size = 5) : (Instr.field 41 (.agg cs) 0).run Tryd.prog W = .ok (.agg cs) W := by
  have hu : Tryd.prog.underlying 39 = some (.array 5 38) := Tryd.underlying39
  have hi : (Tryd.prog.info? 39).map (·.size) = some 5 := by kernel_rfl
  have hagg : (isAgg 39).run Tryd.prog W = .ok true W := by
    unfold isAgg
    rw [Sem.run_bind, run_underlying hu W]
    simp
  unfold Instr.field
  rw [Sem.run_bind, run_underlying Tryd.underlying41 W]
  simp [part, Sem.run_bind, hagg, asAgg, ← h]
theorem hidup5 {p : Prop} (h : p) : Hid p := h
def zero32F : Array Value := (List.replicate 32 (Value.int .u8 0)).toArray
/-- While the bytes are told. -/
structure FY (w : World) (g : Nat) (l : List Nat) (W : World) : Prop where
  res : W.heap[w.heap.size + 1]? = some (.cells zero32F 23 (0, 0))
  dig : D5 W g l
  bel : Below w.heap.size w W
theorem FY.later {w W W' : World} {g : Nat} {l : List Nat} (t : FY w g l W) (hb : Below W.heap.size W W') : FY w g l W' :=
  ⟨by rw [hb.block _ (Array.getElem?_eq_some_iff.1 t.res).1]; exact t.res, t.dig.later hb, t.bel.trans (hb.mono t.bel.size)⟩
theorem byt_part {W : World} {b off n : Nat} {l : List UInt8} (h : Byt W (some ⟨b, off, none⟩) n l) : ∀ j v, (l.map bv)[j]? = some v → W.cell? ⟨b, off + j, none⟩ = some v := by
  intro j v hv
  have h1 := h.cells _ rfl j v hv
  have hadd : (⟨b, off, none⟩ : Addr).add j = ⟨b, off + j, none⟩ := by unfold Addr.add; split <;> simp_all
  rw [hadd] at h1
  exact h1
theorem word_or (l : List Nat) (hl : l.length = 5) (hb : ∀ x ∈ l, x < 2251799813685248) (k : Nat) (hk : k < 4) (a b s t : Nat) (ha : atD l k = a) (hb' : atD l (k + 1) = b) (hs : 13 * k = s) (ht : 51 - s = t) :
    bits .or .u64 ((a : Int) / 2 ^ s) (IntKind.u64.wrap ((b : Int) * 2 ^ t)) = ((valF l / 18446744073709551616 ^ k % 18446744073709551616 : Nat) : Int) := by
  have h1 := word_two l hl hb k hk
  rw [ha, hb', hs, ht] at h1
  have h2 : a < 2251799813685248 := by rw [← ha]; exact atD_bound l _ (by decide) hb k
  have h3 : b < 2251799813685248 := by rw [← hb']; exact atD_bound l _ (by decide) hb (k + 1)
  rw [← h1]
  have : k = 0 ∨ k = 1 ∨ k = 2 ∨ k = 3 := by omega
  rcases this with rfl | rfl | rfl | rfl
  · obtain rfl : s = 0 := by omega
    obtain rfl : t = 51 := by omega
    have e0 : (a : Int) / 2 ^ 0 = ((a / 2 ^ 0 : Nat) : Int) := by simp
    rw [e0, or_add (a / 2 ^ 0) (b % 8192) 51 _ (by rw [IntKind.wrap_u64]; omega) (by omega) (by omega)]
    omega
  · obtain rfl : s = 13 := by omega
    obtain rfl : t = 38 := by omega
    have e0 : (a : Int) / 2 ^ 13 = ((a / 2 ^ 13 : Nat) : Int) := by simp
    rw [e0, or_add (a / 2 ^ 13) (b % 67108864) 38 _ (by rw [IntKind.wrap_u64]; omega) (by omega) (by omega)]
    omega
  · obtain rfl : s = 26 := by omega
    obtain rfl : t = 25 := by omega
    have e0 : (a : Int) / 2 ^ 26 = ((a / 2 ^ 26 : Nat) : Int) := by simp
    rw [e0, or_add (a / 2 ^ 26) (b % 549755813888) 25 _ (by rw [IntKind.wrap_u64]; omega) (by omega) (by omega)]
    omega
  · obtain rfl : s = 39 := by omega
    obtain rfl : t = 12 := by omega
    have e0 : (a : Int) / 2 ^ 39 = ((a / 2 ^ 39 : Nat) : Int) := by simp
    rw [e0, or_add (a / 2 ^ 39) b 12 _ (by rw [IntKind.wrap_u64]; omega) (by omega) (by omega)]
    omega

set_option maxHeartbeats 2000000 in
set_option maxRecDepth 100000 in
theorem fbytes_any (A : List Value) (x : Nat) (w : World) (hA : Elm A x) :
    Calls Tryd.prog 18 #[.agg A.toArray] w fun e w' => e = .returned (.agg ((leB 32 x).map bv).toArray) ∧ Below w.heap.size w w' := by
  obtain ⟨l, rfl, hE, hx⟩ := hA.dig
  obtain ⟨v1, v2, v3⟩ := lesF_val l hE
  rw [hx] at v1
  obtain ⟨a0, a1, a2, a3, a4, hd⟩ := five (lesF l) v2
  rw [hd] at v1 v3
  have hl := hE.len
  have IL : Hid ((Tryd.prog.info? 41).map (·.size) = some (l.map nf).toArray.size) := nf_info l hl
  have HL : Hid (∀ w, Calls Tryd.prog 31 #[.agg (l.map nf).toArray] w fun e w' => e = .returned (.agg #[.int .u64 (a0 : Int), .int .u64 (a1 : Int), .int .u64 (a2 : Int), .int .u64 (a3 : Int), .int .u64 (a4 : Int)]) ∧ Below w.heap.size w w') := fun w => by
    have := fleast_any l w hE
    rw [hd] at this
    exact this
  have HV : Hid (valF [a0, a1, a2, a3, a4] = x) := v1
  have HB : Hid (∀ t ∈ [a0, a1, a2, a3, a4], t < 2251799813685248) := v3
  have HN0 : Hid (Nf ((w.alloc (.cells (l.map nf).toArray 41)).alloc (.cells zero32F 23)) w.heap.size l) := Nf.alloc (heap_alloc_new w _) _
  have HR0 : Hid (((w.alloc (.cells (l.map nf).toArray 41)).alloc (.cells zero32F 23)).heap[w.heap.size + 1]? = some (.cells zero32F 23 (0, 0))) := by
    have := heap_alloc_new (w.alloc (.cells (l.map nf).toArray 41)) (.cells zero32F 23)
    rw [World.size_alloc] at this
    exact this
  have HW0 : Hid (Below w.heap.size w ((w.alloc (.cells (l.map nf).toArray 41)).alloc (.cells zero32F 23))) := ((Below.refl _ _).alloc (Nat.le_refl _) _).alloc (by simp) _
  clear hA hE hx v1 v2 v3 hd
  go_enter Tryd.func18, Tryd.ntmps18
  go_wp2_with (first | refine wpList_load_row rfl 41 _ rfl w.heap.size rfl 41 _ (0, 0) _ HN0.out Tryd.underlying41 rfl IL.out ?_ | fail)
  refine (HL.out _).mono ?_
  rintro e W1 ⟨rfl, hb1⟩
  have hD : D5 (W1.alloc (.cells ([a0, a1, a2, a3, a4].map nf).toArray 39)) W1.heap.size [a0, a1, a2, a3, a4] := heap_alloc_new W1 _
  have hbx := hb1.alloc hb1.size (.cells ([a0, a1, a2, a3, a4].map nf).toArray 39)
  have HY0 : Hid (FY w W1.heap.size [a0, a1, a2, a3, a4] (W1.alloc (.cells ([a0, a1, a2, a3, a4].map nf).toArray 39))) :=
    ⟨by rw [hbx.block _ (by simp)]; exact HR0.out, hD, HW0.out.trans (hbx.mono HW0.out.size)⟩
  have hfd := run_digits W1 #[.int .u64 (a0 : Int), .int .u64 (a1 : Int), .int .u64 (a2 : Int), .int .u64 (a3 : Int), .int .u64 (a4 : Int)] rfl
  clear hD hbx hb1 HN0 HR0 HW0 HL
  go_wp2
  refine from_world (P := Code.wp Tryd.prog _ _ _) (R := fun W => Hid (FY w W1.heap.size [a0, a1, a2, a3, a4] W)) _ HY0 ?_
  clear HY0 hfd
  intro W2 HY0
  generalize W1.heap.size = gd at *
  have hB0 : Hid (Byt W2 none 0 (wds x 0)) := ⟨rfl, .inl rfl⟩
  go_loopw [4, 10] (fun o i wr => ∃ (k n : Nat) (a : Option Addr) (cap : Nat), k ≤ 4 ∧ 8 * k = n ∧ i = .int .i64 k ∧ o = .slice a n cap ∧ Hid (Byt wr a n (wds x k)) ∧ Hid (FY w gd [a0, a1, a2, a3, a4] wr)) (fun _ i _ => 4 - (intOf i).toNat)
  case atStart => exact ⟨0, 0, none, 0, by omega, rfl, rfl, rfl, hB0, HY0⟩
  case round =>
    clear HY0 hB0
    obtain ⟨k, n, a, cap, hk, hn, rfl, rfl, HBy, HY⟩ := hrel
    by_cases hlt : k < 4
    · have hki : (k : Int) < 4 := by omega
      obtain ⟨s, hs⟩ : ∃ s, 13 * k = s := ⟨_, rfl⟩
      obtain ⟨t, ht⟩ : ∃ t, 51 - s = t := ⟨_, rfl⟩
      obtain ⟨k1, hk1⟩ : ∃ k1, k + 1 = k1 := ⟨_, rfl⟩
      obtain ⟨u, hu⟩ : ∃ u, atD [a0, a1, a2, a3, a4] k = u := ⟨_, rfl⟩
      obtain ⟨v, hv⟩ : ∃ v, atD [a0, a1, a2, a3, a4] k1 = v := ⟨_, rfl⟩
      obtain ⟨m, hm⟩ : ∃ m, valF [a0, a1, a2, a3, a4] / 18446744073709551616 ^ k % 18446744073709551616 = m := ⟨_, rfl⟩
      have EO0 := word_or [a0, a1, a2, a3, a4] rfl HB.out k hlt u v s t hu (by rw [hk1]; exact hv) hs ht
      rw [hm] at EO0
      have EO : Hid _ := EO0
      clear EO0
      have HM : Hid (wds x (k + 1) = wds x k ++ putB 8 m false) := by
        show _ = _
        rw [wds, ← HV.out, hm]
        rfl
      have HU : Hid (∀ w', Below wr.drew.heap.size wr.drew w' → w'.cell? ⟨gd, k, none⟩ = some (.int .u64 (u : Int))) := fun w' hw' => by
        have := ((HY.out.later (W' := wr.drew) (Below.refl _ _).drew).later hw').dig.word k (by simp; omega)
        rw [hu] at this
        exact this
      have HV1 : Hid (∀ w', Below wr.drew.heap.size wr.drew w' → w'.cell? ⟨gd, k1, none⟩ = some (.int .u64 (v : Int))) := fun w' hw' => by
        have := ((HY.out.later (W' := wr.drew) (Below.refl _ _).drew).later hw').dig.word k1 (by simp; omega)
        rw [hv] at this
        exact this
      have e1 : (k : Int) * 13 = (s : Int) := by omega
      have e2 : IntKind.i64.wrap (51 - (s : Int)) = (t : Int) := by rw [IntKind.wrap_i64]; omega
      have e3 : IntKind.i64.wrap ((k : Int) + 1) = (k1 : Int) := by rw [IntKind.wrap_i64]; omega
      have hk15 : (k1 : Int) < 5 := by omega
      have hk5 : (k : Int) < 5 := by omega
      have ht64 : t < 64 := by omega
      have hs64 : s < 64 := by omega
      obtain ⟨W, hWd⟩ : ∃ W, wr.drew = W := ⟨_, rfl⟩
      have HWd : Hid (wr.drew = W) := hWd
      have HYd := hidup5 (HY.out.later (W' := W) (by rw [← hWd]; exact (Below.refl _ _).drew))
      have HBd := hidup5 (HBy.out.later (w' := W) (by rw [← hWd]; exact (Below.refl _ _).drew))
      rw [hWd] at HU HV1
      clear hWd HY HBy hs ht hu hv hm
      go_wp2_with fail
      refine wp_region_sched' (G := Grows) (by kernel_rfl) Grows.refl Grows.trans (by kernel_rfl) [(0, true), (1, true), (2, true), (3, true), (4, true), (5, true), (6, true), (7, true), (8, true), (9, true), (10, true), (11, true), (12, true), (13, true), (14, false), (15, true)] rfl (by kernel_rfl) ?_
      intro KK hKK
      rw [HWd.out]
      clear HWd
      iterate 3 (refine sched_take rfl (by rfl) (v := ?_) ?_ ?_; rotate_left; (intro w' hw'; clear hw'; go_simp; with_reducible rfl); go_simp)
      refine sched_take rfl (by rfl) (v := ?_) ?_ ?_; rotate_left; (intro w' hw'; have cu := HU.out w' hw'; clear hw'; go_simp; with_reducible rfl); go_simp
      iterate 5 (refine sched_take rfl (by rfl) (v := ?_) ?_ ?_; rotate_left; (intro w' hw'; clear hw'; go_simp; with_reducible rfl); go_simp)
      refine sched_take rfl (by rfl) (v := ?_) ?_ ?_; rotate_left; (intro w' hw'; have cu := HV1.out w' hw'; clear hw'; go_simp; with_reducible rfl); go_simp
      iterate 3 (refine sched_take rfl (by rfl) (v := ?_) ?_ ?_; rotate_left; (intro w' hw'; clear hw'; go_simp; with_reducible rfl); go_simp)
      refine sched_take rfl (by rfl) (v := .int .u64 (m : Int)) (fun w' hw' => by clear hw'; go_simp; rw [EO.out]) ?_
      go_simp
      refine sched_call (f := 32) (args := #[.slice a n cap, .int .i64 8, .int .u64 (m : Int), .bool false]) rfl (by rfl) (by go_simp) ?_
      refine (put_any a n cap 8 m false (wds x k) W (by omega) HBd.out 8 (by decide)).mono ?_
      rintro e w8 ⟨g, rfl, hg, hb8, hB8⟩
      refine ⟨_, rfl, hb8, ?_⟩
      have HB8 : Hid (Byt w8 (some ⟨g, 0, none⟩) (n + 8) (wds x (k + 1))) := by rw [HM.out]; exact hB8
      have HY8 := hidup5 (HYd.out.later hb8)
      clear hb8 hB8 HYd HBd
      go_simp
      refine sched_take rfl (by rfl) (v := ?_) ?_ ?_; rotate_left; (intro w' hw'; clear hw'; go_simp; with_reducible rfl); go_simp
      refine sched_done hKK ?_
      clear hKK
      go_wp2
      exact ⟨⟨k + 1, n + 8, some ⟨g, 0, none⟩, n + 8, by omega, by omega, by go_num, rfl, HB8, HY8⟩, by simp [intOf]; omega⟩
    · have ek : k = 4 := by omega
      subst ek
      obtain rfl : n = 32 := by omega
      have hkr : ¬ ((4 : Nat) : Int) < 4 := by omega
      rw [wds_all] at HBy
      obtain ⟨b, off, rfl, _⟩ := HBy.out.at_ 0 (by omega)
      obtain ⟨L, hL⟩ : ∃ L, leB 32 x = L := ⟨_, rfl⟩
      have hLl : L.length = 32 := by rw [← hL, leB_length]
      have HBy2 : Hid (Byt wr (some ⟨b, off, none⟩) 32 L) := by rw [← hL]; exact HBy.out
      have hI : Hid ((Tryd.prog.info? 23).map (·.size) = some (L.map bv).toArray.size) := info_size (n := 32) (by kernel_rfl) L hLl
      have hI2 : Hid ((Tryd.prog.info? 23).map (·.size) = some (L.map bv).length) := by rw [List.length_map, hLl]; show _ = _; kernel_rfl
      have hst2 := store_row wr (w.heap.size + 1) _ _ (L.map bv) HY.out.res (by simp [hLl, zero32F]) (bv_oneCell L)
      have hrow := setRow_heap wr (w.heap.size + 1) _ (L.map bv).toArray _ _ HY.out.res
      have HBel : Hid (Below w.heap.size w (wr.setRow (w.heap.size + 1) (L.map bv).toArray)) := below_setRow HY.out.bel (by omega) _
      obtain ⟨W4, hW4⟩ : ∃ W4, wr.setRow (w.heap.size + 1) (L.map bv).toArray = W4 := ⟨_, rfl⟩
      rw [hW4] at hst2 hrow HBel
      have HRow : Hid (W4.heap[w.heap.size + 1]? = some (.cells (L.map bv).toArray 23 (0, 0))) := hrow
      have HL : Hid (leB 32 x = L) := hL
      have hat : (Instr.arrayAt 23 (.slice (some ⟨b, off, none⟩) 32 cap)).run Tryd.prog wr = .ok (.pointer (some ⟨b, off, none⟩)) wr := by simp [Instr.arrayAt, run_underlying Tryd.underlying23]
      clear hrow hW4 hL HBy
      go_wp2_with (first | refine wpList_load_part rfl 23 _ rfl b off rfl (L.map bv) _ (byt_part HBy2.out) Tryd.underlying23 rfl hI2.out ?_)
      (try simp only [Exit.inBlock, Exit.then])
      refine bodyPost_ret (results_cell_row rfl _ _ (w.heap.size + 1) 23 _ (0, 0) _ rfl HRow.out Tryd.underlying23 rfl hI.out) rfl ?_
      exact ⟨by rw [HL.out], HBel.out⟩

set_option maxHeartbeats 1000000 in
set_option maxRecDepth 100000 in
theorem fsquares_any (n : Nat) (x : Nat) (e e' : Nat) (A : List Value) (w : World) (hn : n < 1000) (hA : Elm A (pw x e)) (he : e * 2 ^ n = e') :
    Calls Tryd.prog 38 #[.agg A.toArray, .int .i64 (n : Int)] w fun r w' => ∃ cs, r = .returned (.agg cs.toArray) ∧ Elm cs (pw x e') ∧ Below w.heap.size w w' := by
  obtain ⟨l, rfl, hE, hx⟩ := hA.dig
  have HN0 : Hid (FB w w.heap.size (w.heap.size + 1) l ((w.alloc (.cells (l.map nf).toArray 41)).alloc (.cells #[.int .u64 0, .int .u64 0, .int .u64 0, .int .u64 0, .int .u64 0] 41))) := FB.new1 w l
  have HE0 : Hid (Elm (l.map nf) (pw x (e * 2 ^ 0))) := by rw [Nat.pow_zero, Nat.mul_one]; exact hA
  have hl := hE.len
  have HE' : Hid (e * 2 ^ n = e') := he
  clear hE hx hA he
  go_enter Tryd.func38, Tryd.ntmps38
  go_wp2
  refine from_world (P := Code.wp Tryd.prog _ _ _) (R := fun W => Hid (FB w w.heap.size (w.heap.size + 1) l W)) _ HN0 ?_
  intro W0 hN0
  clear HN0
  go_loopw [6] (fun i wr => ∃ (k : Nat) (m : List Nat), k ≤ n ∧ m.length = 5 ∧ i = .int .i64 k ∧ Hid (Elm (m.map nf) (pw x (e * 2 ^ k))) ∧ Hid (FB w w.heap.size (w.heap.size + 1) m wr)) (fun i _ => n - (intOf i).toNat)
  case atStart => exact ⟨0, l, by omega, hl, rfl, HE0, hN0⟩
  case round =>
    clear hN0 HE0 hl
    obtain ⟨k, m, hk, hml, rfl, hE, hN⟩ := hrel
    have IM : Hid ((Tryd.prog.info? 41).map (·.size) = some (m.map nf).toArray.size) := nf_info m hml
    by_cases hlt : k < n
    · have hki : (k : Int) < (n : Int) := by omega
      go_wp2_with (first | refine wpList_load_row rfl 41 _ rfl w.heap.size rfl 41 _ (0, 0) _ hN.out.now Tryd.underlying41 rfl IM.out ?_ | fail)
      refine (fmul_any (m.map nf) (m.map nf) _ _ wr hE.out hE.out).mono ?_
      rintro r w8 ⟨cs, rfl, hc, hb8⟩
      rw [pw_double, Nat.mul_assoc, ← Nat.pow_succ] at hc
      obtain ⟨c, rfl, hEc, _⟩ := hc.dig
      have hcl := hEc.len
      have hN8 := hN.out.later hb8
      have hst := store_row w8 w.heap.size _ _ (c.map nf) hN8.now (by simp [hcl, hml]) (nf_oneCell c)
      have HN9 : Hid (FB w w.heap.size (w.heap.size + 1) c (w8.setRow w.heap.size (c.map nf).toArray)) := hN8.put c
      have HE9 : Hid (Elm (c.map nf) (pw x (e * 2 ^ (k + 1)))) := hc
      obtain ⟨W9, hW9⟩ : ∃ W9, w8.setRow w.heap.size (c.map nf).toArray = W9 := ⟨_, rfl⟩
      rw [hW9] at hst HN9
      clear hc hEc hN8 hb8 hN hE hW9
      go_wp2
      exact ⟨⟨k + 1, c, by omega, hcl, by go_num, HE9, HN9⟩, by simp [intOf]; omega⟩
    · have ek : k = n := by omega
      subst ek
      have hkr : ¬ (k : Int) < (k : Int) := by omega
      rw [HE'.out] at hE
      have hst2 := store_row wr (w.heap.size + 1) _ _ (m.map nf) hN.out.res (by simp [hml]) (nf_oneCell m)
      have hrow := setRow_heap wr (w.heap.size + 1) _ (m.map nf).toArray _ _ hN.out.res
      have HBel : Hid (Below w.heap.size w (wr.setRow (w.heap.size + 1) (m.map nf).toArray)) := below_setRow hN.out.bel hN.out.br _
      obtain ⟨W4, hW4⟩ : ∃ W4, wr.setRow (w.heap.size + 1) (m.map nf).toArray = W4 := ⟨_, rfl⟩
      rw [hW4] at hst2 hrow HBel
      have HRow : Hid (W4.heap[w.heap.size + 1]? = some (.cells (m.map nf).toArray 41 (0, 0))) := hrow
      clear hrow hW4
      go_wp2_with (first | refine wpList_load_row rfl 41 _ rfl w.heap.size rfl 41 _ (0, 0) _ hN.out.now Tryd.underlying41 rfl IM.out ?_)
      (try simp only [Exit.inBlock, Exit.then])
      refine bodyPost_ret (results_cell_row rfl _ _ (w.heap.size + 1) 41 _ (0, 0) _ rfl HRow.out Tryd.underlying41 rfl IM.out) rfl ?_
      exact ⟨m.map nf, rfl, hE.out, HBel.out⟩
end Go.Proofs.YtmdoojfcgbokjaaDoor
