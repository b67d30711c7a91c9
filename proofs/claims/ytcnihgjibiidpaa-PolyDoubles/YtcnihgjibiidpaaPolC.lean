/- The walk over the program's Sum (poly): what it answers, whatever it is handed. -/
import Derived.Test.YtcnihgjibiidpaaPolF
namespace Go.Proofs.Ytcnihgjibiidpaa
set_option linter.unusedVariables false
open Go.RowKit

/-- What Sum has: the key, the place of its answer, R, and A. -/
structure SM (w : World) (key : List UInt8) (gr ga : Nat) (R A : List Nat) (W : World) : Prop where
  key : Arr W w.heap.size 23 key
  res : Arr W (w.heap.size + 1) 26 (List.replicate 16 0)
  r : Num W gr R
  a : Num W ga A
  ne : gr ≠ ga
  ba : w.heap.size + 1 < ga
  bel : Below w.heap.size w W
theorem SM.later {w W W' : World} {key : List UInt8} {gr ga : Nat} {R A : List Nat} (t : SM w key gr ga R A W) (hb : Below W.heap.size W W') : SM w key gr ga R A W' :=
  ⟨t.key.later hb, t.res.later hb, t.r.later hb, t.a.later hb, t.ne, t.ba, t.bel.trans (hb.mono t.bel.size)⟩
theorem SM.put {w W : World} {key : List UInt8} {gr ga : Nat} {R A : List Nat} (t : SM w key gr ga R A W) (A' : List Nat) : SM w key gr ga R A' (W.setRow ga (A'.map nv).toArray) := by
  have h1 := t.ba
  refine ⟨t.key.keep (by omega) _, t.res.keep (by omega) _, ?_, setRow_heap W ga _ _ _ _ t.a, t.ne, t.ba, below_setRow t.bel (by omega) _⟩
  unfold Num
  rw [setRow_other _ _ _ _ t.ne]
  exact t.r
structure SKP (w : World) (key : List UInt8) (W : World) : Prop where
  key : Arr W w.heap.size 23 key
  res : Arr W (w.heap.size + 1) 26 (List.replicate 16 0)
  bel : Below w.heap.size w W
theorem SKP.new (w : World) (key : List UInt8) : SKP w key ((w.alloc (.cells (key.map bv).toArray 23)).alloc (.cells ((List.replicate 16 0).map bv).toArray 26)) := by
  obtain ⟨a1, a0⟩ := arr_new2 w 23 key (List.replicate 16 0) 26
  exact ⟨a0, a1, ((Below.refl _ _).alloc (Nat.le_refl _) _).alloc (by simp) _⟩
theorem SKP.later {w W W' : World} {key : List UInt8} (t : SKP w key W) (hb : Below W.heap.size W W') : SKP w key W' :=
  ⟨t.key.later hb, t.res.later hb, t.bel.trans (hb.mono t.bel.size)⟩
theorem SM.new {w W : World} {key : List UInt8} (t : SKP w key W) (R : List Nat) : SM w key W.heap.size (W.heap.size + 1) R [0, 0, 0, 0, 0] ((W.alloc (.cells (R.map nv).toArray 51)).alloc (.cells #[.int .u64 0, .int .u64 0, .int .u64 0, .int .u64 0, .int .u64 0] 51)) := by
  obtain ⟨h1, h2⟩ := num_new2 W R [0, 0, 0, 0, 0]
  have h3 := t.res.lt
  refine ⟨(t.key.alloc _).alloc _, (t.res.alloc _).alloc _, h2, h1, by omega, by omega, (t.bel.alloc t.bel.size _).alloc (by have := t.bel.size; simp; omega) _⟩
theorem run_store_num (w : World) (l : List Nat) (hn : l.length = 5) (c : Array Value) (hc : c.size = 5) :
    (storeCells ⟨w.heap.size, 0, none⟩ (l.map nv)).run Try.prog (w.alloc (.cells c 51)) = .ok () (w.alloc (.cells (l.map nv).toArray 51)) := by
  have e1 : (Try.prog.info? 51).map (·.size) = some 5 := by kernel_rfl
  have := run_storeCells_new (P := Try.prog) w 51 c (l.map nv).toArray (by rw [e1]; simp [hn]) (by simp [hc, hn]) (by
    rw [Array.all_eq_true_iff_forall_mem]
    intro u hu
    simp only [List.mem_toArray] at hu
    exact nv_oneCell l u hu)
  exact this
theorem mod_step (x y r p : Nat) : (x + y) * r % p = (x % p + y) * r % p := by
  rw [Nat.mul_mod (x + y), Nat.mul_mod (x % p + y), Nat.mod_add_mod]
/-- A, behind k parts. -/
structure AK (key l : List UInt8) (k : Nat) (A : List Nat) : Prop where
  len : A.length = 5
  lt : ∀ x ∈ A, x < 67108864
  val : valL A % P1305 = polyTo (polyR key) l k
theorem AK.zero (key l : List UInt8) : AK key l 0 [0, 0, 0, 0, 0] := ⟨rfl, by simp, rfl⟩
theorem AK.next {key l : List UInt8} {k : Nat} {A : List Nat} (h : AK key l k A) : AK key l (k + 1) (timL (addTo A (limbs (partN l k)) 5) (limbs (polyR key))) := by
  have h1 := addTo_length A (limbs (partN l k)) 5
  rw [h.len] at h1
  refine ⟨timL_length _ _, timL_lt _ _ (addTo_lt A _ h.len (limbs_length _) h.lt (limbs_lt _)) (limbs_lt _), ?_⟩
  rw [timL_val _ _ h1 (limbs_length _), addTo_val A _ h.len (limbs_length _), limbs_val _ (partN_small l k), limbs_val _ (polyR_small key), polyTo, ← h.val]
  exact mod_step _ _ _ _

set_option maxHeartbeats 400000 in
set_option maxRecDepth 100000 in
theorem sum_any (key : List UInt8) (a : Option Addr) (len cap : Nat) (l : List UInt8) (w : World) (hk : key.length = 32) (hB : Byt w a len l) (hlm : len ≤ 10000) (hlc : len ≤ cap) (hcm : cap ≤ maxLen) :
    Calls Try.prog 15 #[.agg (key.map bv).toArray, .slice a len cap] w fun e w' => e = .returned (.agg ((tag key l).map bv).toArray) ∧ Below w.heap.size w w' := by
  have hl := hB.1
  have HB : Hid (Byt w a len l) := hB
  have IK : Hid ((Try.prog.info? 23).map (·.size) = some (key.map bv).toArray.size) := by
    have e1 : (Try.prog.info? 23).map (·.size) = some 32 := by kernel_rfl
    show _ = _
    rw [e1]; simp [hk]
  unfold maxLen at hcm
  clear hB
  go_enter Try.func15, Try.ntmps15
  go_wp2_with (first | refine wpList_load_row rfl 23 _ rfl w.heap.size rfl 23 _ (0, 0) _ (SKP.new w key).key Try.underlying23 rfl IK.out ?_)
  refine (multiplier_any key _ hk).mono ?_
  rintro e w1 ⟨rfl, hb1⟩
  have HS1 : Hid (SKP w key w1) := (SKP.new w key).later hb1
  obtain ⟨C, hC⟩ : ∃ C, clampB key ++ [0] = C := ⟨_, rfl⟩
  have hCl : C.length = 17 := by rw [← hC]; simp [clampB_length]
  have eR : leN C = polyR key := by rw [← hC, leN_append]; simp [leN, polyR]
  rw [hC]
  clear hb1 hC
  go_wp2_with fail
  refine (tell_any C w1 hCl).mono ?_
  rintro e w2 ⟨rfl, hb2⟩
  have HS2 : Hid (SKP w key w2) := HS1.out.later hb2
  rw [eR]
  obtain ⟨R, hR⟩ : ∃ R, limbs (polyR key) = R := ⟨_, rfl⟩
  have hRl : R.length = 5 := by rw [← hR, limbs_length]
  have hRb : ∀ x ∈ R, x < 67108864 := by rw [← hR]; exact limbs_lt _
  rw [hR]
  have HR : Hid (limbs (polyR key) = R) := hR
  have hst := run_store_num w2 R hRl #[.int .u64 0, .int .u64 0, .int .u64 0, .int .u64 0, .int .u64 0] rfl
  clear hb2 HS1 hR eR
  go_wp2
  clear hst
  refine from_world (P := Code.wp Try.prog _ _ _) (R := fun W => Hid (SM w key w2.heap.size (w2.heap.size + 1) R [0, 0, 0, 0, 0] W)) _ (SM.new HS2.out R) ?_
  intro W0 hM0
  clear HS2
  generalize w2.heap.size + 1 = ga at hM0 ⊢
  generalize w2.heap.size = gr at hM0 ⊢
  go_loopw [7] (fun i wr => ∃ (k : Nat) (A : List Nat), 16 * k ≤ len + 15 ∧ i = .int .i64 ((16 * k : Nat) : Int) ∧ Hid (AK key l k A) ∧ Hid (SM w key gr ga R A wr)) (fun i _ => len + 16 - (intOf i).toNat)
  case atStart => exact ⟨0, [0, 0, 0, 0, 0], by omega, rfl, AK.zero key l, hM0⟩
  case round =>
    clear hM0
    obtain ⟨k, A, hk', rfl, hA, hM⟩ := hrel
    obtain ⟨p, hp⟩ : ∃ p, 16 * k = p := ⟨_, rfl⟩
    rw [hp] at hk' ⊢
    by_cases hlt : p < len
    · have i1 : (p : Int) < (len : Int) := by omega
      obtain ⟨q, hq⟩ : ∃ q, q = min (p + 16) len := ⟨_, rfl⟩
      have hq1 : p < q := by omega
      have hq2 : q ≤ len := by omega
      have hq3 : q - p ≤ 16 := by omega
      have hw16 : IntKind.i64.wrap ((p : Int) + 16) = (p : Int) + 16 := by rw [IntKind.wrap_i64]; omega
      have hmin : (if (len : Int) < (p : Int) + 16 then (len : Int) else (p : Int) + 16) = (q : Int) := by split <;> omega
      have HPart : Hid ((l.drop p).take (q - p) = cutB l (16 * k) 16) := by
        show _ = _
        unfold cutB
        rw [hp]
        apply List.ext_getElem
        · simp; omega
        · intro i h1 h2; simp
      clear hq
      obtain ⟨ba, offa, rfl⟩ : ∃ ba offa, a = some ⟨ba, offa, none⟩ := by
        rcases HB.out.2 with h0 | ⟨b', off', e, _⟩
        · omega
        · exact ⟨b', off', e⟩
      have hba := HB.out.lt (by omega)
      have hcn : ¬ cap = p := by omega
      have hpc : (p : Int) ≤ (cap : Int) := by omega
      have hqc : (q : Int) ≤ (cap : Int) := by omega
      have hpq : (p : Int) ≤ (q : Int) := by omega
      obtain ⟨W1, hW1⟩ : ∃ W1, wr.drew = W1 := ⟨_, rfl⟩
      have hgr : Below wr.heap.size wr W1 := by rw [← hW1]; exact (Below.refl _ _).drew
      have HM1 : Hid (SM w key gr ga R A W1) := hM.out.later hgr
      have HP1 : Hid (Byt W1 (some ⟨ba, offa + p, none⟩) (q - p) (cutB l (16 * k) 16)) := by
        rw [← HPart.out]
        exact (HB.out.below hba HM1.out.bel).sub (by omega) hq2
      have HW1 : Hid (wr.drew = W1) := hW1
      have IA : Hid ((Try.prog.info? 51).map (·.size) = some (A.map nv).toArray.size) := num_info A hA.out.len
      have IR : Hid ((Try.prog.info? 51).map (·.size) = some (R.map nv).toArray.size) := num_info R hRl
      clear hW1 hgr hM
      go_wp2
      refine wp_region_sched' (G := Grows) (by kernel_rfl) Grows.refl Grows.trans (by kernel_rfl) [(0, true), (1, true), (2, true), (3, true), (4, true), (5, true), (6, true), (7, true), (8, true), (12, true), (9, false), (10, false), (11, false), (13, false), (14, false)] rfl (by kernel_rfl) ?_
      intro KK hKK
      rw [HW1.out]
      refine sched_take rfl (by rfl) (v := .agg (A.map nv).toArray) (fun w' hw' => exec_load_row 51 _ rfl ga rfl 51 _ (0, 0) _ (HM1.out.a.later hw') Try.underlying51 rfl IA.out) ?_
      go_simp
      iterate 8 (refine sched_take rfl (by rfl) (v := ?_) ?_ ?_; rotate_left; (intro w' hw'; clear hw'; go_simp; with_reducible rfl); go_simp)
      refine sched_take rfl (by rfl) (v := .agg (R.map nv).toArray) (fun w' hw' => exec_load_row 51 _ rfl gr rfl 51 _ (0, 0) _ (HM1.out.r.later hw') Try.underlying51 rfl IR.out) ?_
      go_simp
      refine sched_call (f := 26) (args := #[.slice (some ⟨ba, offa + p, none⟩) (q - p) (cap - p)]) rfl (by rfl) (by go_simp) ?_
      refine (closed_any ba (offa + p) (q - p) (cap - p) _ W1 HP1.out hq3).mono ?_
      rintro e w3 ⟨rfl, hb3⟩
      refine ⟨_, rfl, hb3, ?_⟩
      obtain ⟨D, hD⟩ : ∃ D, cutB l (16 * k) 16 ++ 1 :: List.replicate (16 - (q - p)) 0 = D := ⟨_, rfl⟩
      have hDl : D.length = 17 := by rw [← hD]; have := HP1.out.1; simp; omega
      have eD : leN D = partN l k := by
        have e : cutB l (16 * k) 16 ++ 1 :: List.replicate (16 - (q - p)) 0 = (cutB l (16 * k) 16 ++ [1]) ++ List.replicate (16 - (q - p)) 0 := by simp
        rw [← hD, e, leN_closed]; rfl
      rw [hD]
      have HM3 : Hid (SM w key gr ga R A w3) := HM1.out.later hb3
      clear hD hb3 HP1 HM1
      go_simp
      refine sched_call (f := 23) (args := #[.agg (D.map bv).toArray]) rfl (by rfl) (by go_simp) ?_
      refine (tell_any D w3 hDl).mono ?_
      rintro e w4 ⟨rfl, hb4⟩
      refine ⟨_, rfl, hb4, ?_⟩
      rw [eD]
      obtain ⟨N, hN⟩ : ∃ N, limbs (partN l k) = N := ⟨_, rfl⟩
      have hNl : N.length = 5 := by rw [← hN, limbs_length]
      have hNb : ∀ x ∈ N, x < 67108864 := by rw [← hN]; exact limbs_lt _
      rw [hN]
      have HM4 : Hid (SM w key gr ga R A w4) := HM3.out.later hb4
      clear hb4 HM3
      go_simp
      refine sched_call (f := 25) (args := #[.agg (A.map nv).toArray, .agg (N.map nv).toArray]) rfl (by rfl) (by go_simp) ?_
      refine (add_any A N w4 hA.out.len hNl (fun x hx => Nat.lt_trans (hA.out.lt x hx) (by decide)) (fun x hx => Nat.lt_trans (hNb x hx) (by decide))).mono ?_
      rintro e w5 ⟨rfl, hb5⟩
      refine ⟨_, rfl, hb5, ?_⟩
      obtain ⟨S, hS⟩ : ∃ S, addTo A N 5 = S := ⟨_, rfl⟩
      have hSl : S.length = 5 := by rw [← hS, addTo_length]; exact hA.out.len
      have hSb : ∀ x ∈ S, x < 134217728 := by rw [← hS]; exact addTo_lt A N hA.out.len hNl hA.out.lt hNb
      rw [hS]
      have HM5 : Hid (SM w key gr ga R A w5) := HM4.out.later hb5
      clear hb5 HM4
      go_simp
      refine sched_call (f := 27) (args := #[.agg (S.map nv).toArray, .agg (R.map nv).toArray]) rfl (by rfl) (by go_simp) ?_
      refine (times_any S R w5 hSl hRl hSb hRb).mono ?_
      rintro e w6 ⟨rfl, hb6⟩
      refine ⟨_, rfl, hb6, ?_⟩
      obtain ⟨A', hA'⟩ : ∃ A', timL S R = A' := ⟨_, rfl⟩
      have hAl' : A'.length = 5 := by rw [← hA', timL_length]
      have HAK : Hid (AK key l (k + 1) A') := by
        have := hA.out.next
        rw [HR.out, hN, hS, hA'] at this
        exact this
      rw [hA']
      have hM6 := HM5.out.later hb6
      have hst := store_row w6 ga _ _ (A'.map nv) hM6.a (by simp [hAl', hA.out.len]) (nv_oneCell A')
      have HM7 : Hid (SM w key gr ga R A' (w6.setRow ga (A'.map nv).toArray)) := hM6.put A'
      clear hb6 HM5 hM6
      go_simp
      refine sched_store rfl (by rfl) (w' := w6.setRow ga (A'.map nv).toArray) (by go_simp) (by kernel_rfl) ?_
      go_simp
      refine sched_done hKK ?_
      clear hst
      go_wp2
      exact ⟨⟨k + 1, A', by omega, by go_num, HAK, HM7⟩, by simp [intOf]; omega⟩
    · have i1 : ¬ (p : Int) < (len : Int) := by omega
      have hkn : k = polyN l.length := by unfold polyN; omega
      have IA : Hid ((Try.prog.info? 51).map (·.size) = some (A.map nv).toArray.size) := num_info A hA.out.len
      obtain ⟨T, hT⟩ : ∃ T, tag key l = T := ⟨_, rfl⟩
      have hTl : T.length = 16 := by rw [← hT, tag_length]
      have HT : Hid (leB 16 (valL A % P1305 + polyS key) = T) := by
        show _ = _
        rw [hA.out.val, hkn, ← hT]; rfl
      have HTT : Hid (tag key l = T) := hT
      clear hT
      go_wp2_with (first | refine wpList_load_row rfl 51 _ rfl ga rfl 51 _ (0, 0) _ hM.out.a Try.underlying51 rfl IA.out ?_ | refine wpList_load_row rfl 23 _ rfl w.heap.size rfl 23 _ (0, 0) _ hM.out.key Try.underlying23 rfl IK.out ?_)
      refine (tag_any A key wr hA.out.len hA.out.lt hk).mono ?_
      rintro e w3 ⟨rfl, hb3⟩
      rw [HT.out]
      have hM3 := hM.out.later hb3
      have IT : Hid ((Try.prog.info? 26).map (·.size) = some (T.map bv).toArray.size) := arr16_info T hTl
      have hst := store_row w3 (w.heap.size + 1) _ _ (T.map bv) hM3.res (by simp [hTl]) (bv_oneCell T)
      have hrow := setRow_heap w3 (w.heap.size + 1) _ (T.map bv).toArray _ _ hM3.res
      have HBel : Hid (Below w.heap.size w (w3.setRow (w.heap.size + 1) (T.map bv).toArray)) := below_setRow hM3.bel (by omega) _
      obtain ⟨W4, hW4⟩ : ∃ W4, w3.setRow (w.heap.size + 1) (T.map bv).toArray = W4 := ⟨_, rfl⟩
      rw [hW4] at hst hrow HBel
      have HRow : Hid (W4.heap[w.heap.size + 1]? = some (.cells (T.map bv).toArray 26 (0, 0))) := hrow
      clear hrow hW4 hM3 hb3 hM
      go_wp2
      (try simp only [Exit.inBlock, Exit.then])
      refine bodyPost_ret (results_cell_row rfl _ _ (w.heap.size + 1) 26 _ (0, 0) _ rfl HRow.out Try.underlying26 rfl IT.out) rfl ?_
      exact ⟨by rw [HTT.out], HBel.out⟩
end Go.Proofs.Ytcnihgjibiidpaa
