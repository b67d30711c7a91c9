/- The walk over what must be in any case (kdf). -/
import Derived.Test.YthjkjfoelekeeaaDoorKdfC
import Derived.Test.YthjkjfoelekeeaaDoorKdfEv
namespace Go.Proofs.YthjkjfoelekeeaaDoor
set_option linter.unusedVariables false
open Go.RowKit

theorem shown_macs : macB [107, 101, 121] [98] = macB [107, 101, 121, 0] [98] := by
  have e : kpad [107, 101, 121] = kpad [107, 101, 121, 0] := by decide
  unfold macB kout kin
  rw [e]
/-- A whole row out of a block, where the load is guarded and wanted. -/
theorem wpList_load_row_if {P : Program} {ops : Array Oper} {rest : List Oper} {o : Oper} {a : Act} {w : World} {Q : Exit → Act → World → Prop} (hw : Region.wanted o (yielded ops a.tmps) = true) (ty : TypeId) (x : Operand) (ho : o.op = .load ty x)
    (g : Nat) (hx : a.eval x = .pointer (some ⟨g, 0, none⟩)) (t : TypeId) (cs : Array Value) (fr : Nat × Nat) (d : TypeDesc) (hg : w.heap[g]? = some (.cells cs t fr))
    (hu : P.underlying ty = some d) (hd : (match d with | .struct _ | .array _ _ => true | _ => false) = true) (hi : (P.info? ty).map (·.size) = some cs.size)
    (h : wpList P ops Q rest (a.put o.dst (.agg cs)) w) : wpList P ops Q (o :: rest) a w :=
  wpList_step fun _ hK => by simp only [hw, if_true]; exact wp_load_row ty x ho g hx t cs fr d hg hu hd hi (hK _ _ h)
/-- A row that came in and is nil has no room. -/
theorem krow_nil {w : World} {a : Option Addr} {len cap : Nat} {zs : List Int} (h : IsRow .u8 w a len cap zs) : a = none → cap = 0 := fun e => by
  rcases h with ⟨_, _, h1, _⟩ | ⟨x, e2, _⟩
  · exact h1
  · rw [e] at e2; cases e2
theorem S_append (l m : List UInt8) : S l ++ S m = S (l ++ m) := by
  apply ByteArray.ext
  simp [S]
theorem all_bv (l : List UInt8) : (l.map bv).toArray.all (·.oneCell') = true := by
  rw [Array.all_eq_true_iff_forall_mem]
  intro u hu
  simp only [List.mem_toArray] at hu
  exact bv_oneCell l u hu
/-- Three keys, one block each. -/
structure K3 (w : World) (g : Nat) (A B C : List UInt8) (W : World) : Prop where
  a : Arr W g 25 A
  b : Arr W (g + 1) 25 B
  c : Arr W (g + 1 + 1) 25 C
  wg : w.heap.size ≤ g
  bel : Below w.heap.size w W
theorem K3.new {w W : World} (hb : Below w.heap.size w W) (A B C : List UInt8) : K3 w W.heap.size A B C (((W.alloc (.cells (A.map bv).toArray 25)).alloc (.cells (B.map bv).toArray 25)).alloc (.cells (C.map bv).toArray 25)) := by
  have h0 := Arr.new W 25 A
  have h1 := Arr.new (W.alloc (.cells (A.map bv).toArray 25)) 25 B
  have h2 := Arr.new ((W.alloc (.cells (A.map bv).toArray 25)).alloc (.cells (B.map bv).toArray 25)) 25 C
  rw [World.size_alloc] at h1
  rw [World.size_alloc, World.size_alloc] at h2
  have hal : ∀ (V : World) (g : Nat) (t : TypeId) (l : List UInt8) (o : Obj), Arr V g t l → Arr (V.alloc o) g t l := fun V g t l o h => h.later ((Below.refl _ _).alloc (Nat.le_refl _) _)
  have hs := hb.size
  exact ⟨hal _ _ _ _ _ (hal _ _ _ _ _ h0), hal _ _ _ _ _ h1, h2, hs, ((hb.alloc hs _).alloc (by simp; omega) _).alloc (by simp; omega) _⟩
theorem Arr.put' {w : World} {g : Nat} {t : TypeId} {l : List UInt8} (h : Arr w g t l) (l' : List UInt8) : Arr (w.setRow g (l'.map bv).toArray) g t l' := setRow_heap w g _ _ _ _ h
theorem Arr.keep' {w : World} {g g' : Nat} {t : TypeId} {l : List UInt8} (h : Arr w g t l) (hne : g ≠ g') (cs : Array Value) : Arr (w.setRow g' cs) g t l := by
  unfold Arr; rw [setRow_other _ _ _ _ hne]; exact h
theorem K3.putA {w W : World} {g : Nat} {A B C : List UInt8} (h : K3 w g A B C W) (A' : List UInt8) : K3 w g A' B C (W.setRow g (A'.map bv).toArray) :=
  ⟨h.a.put' A', h.b.keep' (by omega) _, h.c.keep' (by omega) _, h.wg, below_setRow h.bel h.wg _⟩
theorem K3.putB {w W : World} {g : Nat} {A B C : List UInt8} (h : K3 w g A B C W) (B' : List UInt8) : K3 w g A B' C (W.setRow (g + 1) (B'.map bv).toArray) :=
  ⟨h.a.keep' (by omega) _, h.b.put' B', h.c.keep' (by omega) _, h.wg, below_setRow h.bel (by have := h.wg; omega) _⟩
theorem K3.putC {w W : World} {g : Nat} {A B C : List UInt8} (h : K3 w g A B C W) (C' : List UInt8) : K3 w g A B C' (W.setRow (g + 1 + 1) (C'.map bv).toArray) :=
  ⟨h.a.keep' (by omega) _, h.b.keep' (by omega) _, h.c.put' C', h.wg, below_setRow h.bel (by have := h.wg; omega) _⟩
theorem K3.later {w W W' : World} {g : Nat} {A B C : List UInt8} (h : K3 w g A B C W) (hb : Below W.heap.size W W') : K3 w g A B C W' :=
  ⟨h.a.later hb, h.b.later hb, h.c.later hb, h.wg, h.bel.trans (hb.mono h.bel.size)⟩

set_option maxHeartbeats 1000000 in
set_option maxRecDepth 100000 in
theorem kdfShown_any (w : World) (htab : Tab w) : Calls Tryd.prog 8 #[] w fun e w' => e = .returned (.bool true) ∧ Below w.heap.size w w' := by
  have kd0 : ∀ (W : World) (C : Array Value) (n c : Nat), (convert 22 22 (.slice (some ⟨W.heap.size, 0, none⟩) n c)).run Tryd.prog (W.alloc (.cells C 5)) = .ok (.slice (some ⟨W.heap.size, 0, none⟩) n c) (W.alloc (.cells C 5 (C.size, C.size + 1))) := fun W C n c =>
    Lib.run_convert_bytes_const (P := Tryd.prog) W 22 5 C n c Tryd.underlying22 Tryd.underlying5
  have kd1 : ∀ (W : World) (O : Obj) (C : Array Value) (n c : Nat), (convert 22 22 (.slice (some ⟨W.heap.size + 1, 0, none⟩) n c)).run Tryd.prog ((W.alloc O).alloc (.cells C 5)) = .ok (.slice (some ⟨W.heap.size + 1, 0, none⟩) n c) ((W.alloc O).alloc (.cells C 5 (C.size, C.size + 1))) := fun W O C n c => by
    have := Lib.run_convert_bytes_const (P := Tryd.prog) (W.alloc O) 22 5 C n c Tryd.underlying22 Tryd.underlying5
    simpa using this
  have HTab : Hid (Tab w) := htab
  clear htab
  go_enter Tryd.func8, Tryd.ntmps8
  go_wp2_with fail
  have hb0 : Below w.heap.size w (w.alloc (.cells #[.int .u8 120] 5 (1, 2))) := (Below.refl _ _).alloc (Nat.le_refl _) _
  refine (derive_any kShKey (some ⟨w.heap.size, 0, none⟩) 1 1 [120] _ rfl (byt_lit _ [120] w.heap.size _ _ (1, 2) (heap_alloc_new w _) rfl) (fun e => by cases e) (by omega) (by omega) (by unfold maxLen; omega) (HTab.out.alloc _)).mono ?_
  rintro e w1 ⟨rfl, hb1⟩
  obtain ⟨n1, n2, n3⟩ := shown_keys
  have l1 := der1_length kShKey [120]
  have l2 := der2_length kShKey [120]
  have l3 := der3_length kShKey [120]
  generalize der1 kShKey [120] = d1 at n1 n2 n3 l1 ⊢
  generalize der2 kShKey [120] = d2 at n1 n2 n3 l2 ⊢
  generalize der3 kShKey [120] = d3 at n1 n2 n3 l3 ⊢
  have hW1 : Below w.heap.size w w1 := hb0.trans (hb1.mono hb0.size)
  have hK0 := K3.new hW1 (List.replicate 32 0) (List.replicate 32 0) (List.replicate 32 0)
  have I1 : Hid ((Tryd.prog.info? 25).map (·.size) = some (d1.map bv).toArray.size) := info_size (by kernel_rfl) d1 l1
  have I2 : Hid ((Tryd.prog.info? 25).map (·.size) = some (d2.map bv).toArray.size) := info_size (by kernel_rfl) d2 l2
  have I3 : Hid ((Tryd.prog.info? 25).map (·.size) = some (d3.map bv).toArray.size) := info_size (by kernel_rfl) d3 l3
  have hst1 := store_row _ _ _ _ (d1.map bv) hK0.a (by simp [l1]) (bv_oneCell d1)
  have hK1 := hK0.putA d1
  obtain ⟨W1, hW1e⟩ : ∃ W1, (((w1.alloc (.cells ((List.replicate 32 (0 : UInt8)).map bv).toArray 25)).alloc (.cells ((List.replicate 32 (0 : UInt8)).map bv).toArray 25)).alloc (.cells ((List.replicate 32 (0 : UInt8)).map bv).toArray 25)).setRow w1.heap.size (d1.map bv).toArray = W1 := ⟨_, rfl⟩
  rw [hW1e] at hst1 hK1
  have kst1 : (storeCells ⟨w1.heap.size, 0, none⟩ (d1.map bv)).run Tryd.prog (((w1.alloc (.cells #[.int .u8 0, .int .u8 0, .int .u8 0, .int .u8 0, .int .u8 0, .int .u8 0, .int .u8 0, .int .u8 0, .int .u8 0, .int .u8 0, .int .u8 0, .int .u8 0, .int .u8 0, .int .u8 0, .int .u8 0, .int .u8 0, .int .u8 0, .int .u8 0, .int .u8 0, .int .u8 0, .int .u8 0, .int .u8 0, .int .u8 0, .int .u8 0, .int .u8 0, .int .u8 0, .int .u8 0, .int .u8 0, .int .u8 0, .int .u8 0, .int .u8 0, .int .u8 0] 25)).alloc (.cells #[.int .u8 0, .int .u8 0, .int .u8 0, .int .u8 0, .int .u8 0, .int .u8 0, .int .u8 0, .int .u8 0, .int .u8 0, .int .u8 0, .int .u8 0, .int .u8 0, .int .u8 0, .int .u8 0, .int .u8 0, .int .u8 0, .int .u8 0, .int .u8 0, .int .u8 0, .int .u8 0, .int .u8 0, .int .u8 0, .int .u8 0, .int .u8 0, .int .u8 0, .int .u8 0, .int .u8 0, .int .u8 0, .int .u8 0, .int .u8 0, .int .u8 0, .int .u8 0] 25)).alloc (.cells #[.int .u8 0, .int .u8 0, .int .u8 0, .int .u8 0, .int .u8 0, .int .u8 0, .int .u8 0, .int .u8 0, .int .u8 0, .int .u8 0, .int .u8 0, .int .u8 0, .int .u8 0, .int .u8 0, .int .u8 0, .int .u8 0, .int .u8 0, .int .u8 0, .int .u8 0, .int .u8 0, .int .u8 0, .int .u8 0, .int .u8 0, .int .u8 0, .int .u8 0, .int .u8 0, .int .u8 0, .int .u8 0, .int .u8 0, .int .u8 0, .int .u8 0, .int .u8 0] 25)) = .ok () W1 := hst1
  have kst2 := store_row _ _ _ _ (d2.map bv) hK1.b (by simp [l2]) (bv_oneCell d2)
  have hK2 := hK1.putB d2
  obtain ⟨W2, hW2e⟩ : ∃ W2, W1.setRow (w1.heap.size + 1) (d2.map bv).toArray = W2 := ⟨_, rfl⟩
  rw [hW2e] at kst2 hK2
  have kst3 := store_row _ _ _ _ (d3.map bv) hK2.c (by simp [l3]) (bv_oneCell d3)
  have hK3 := hK2.putC d3
  obtain ⟨W3, hW3e⟩ : ∃ W3, W2.setRow (w1.heap.size + 1 + 1) (d3.map bv).toArray = W3 := ⟨_, rfl⟩
  rw [hW3e] at kst3 hK3
  have HK3 : Hid _ := hK3
  clear hK0 hK1 hK2 hK3 hb1 hb0 hW1 hW1e hW2e hW3e hst1
  go_wp2_with fail
  have hal1 : Below W3.heap.size W3 (W3.alloc (.cells #[.int .u8 107, .int .u8 101, .int .u8 121] 5 (3, 4))) := (Below.refl _ _).alloc (Nat.le_refl _) _
  have hal2 : Below (W3.heap.size + 1) (W3.alloc (.cells #[.int .u8 107, .int .u8 101, .int .u8 121] 5 (3, 4))) ((W3.alloc (.cells #[.int .u8 107, .int .u8 101, .int .u8 121] 5 (3, 4))).alloc (.cells #[.int .u8 98] 5 (1, 2))) := (Below.refl _ _).alloc (by simp) _
  have hA1 : Byt ((W3.alloc (.cells #[.int .u8 107, .int .u8 101, .int .u8 121] 5 (3, 4))).alloc (.cells #[.int .u8 98] 5 (1, 2))) (some ⟨W3.heap.size, 0, none⟩) 3 [107, 101, 121] :=
    (byt_lit _ [107, 101, 121] _ _ _ (3, 4) (heap_alloc_new W3 _) rfl).later ((Below.refl _ _).alloc (Nat.le_refl _) _)
  have hC1 : Byt ((W3.alloc (.cells #[.int .u8 107, .int .u8 101, .int .u8 121] 5 (3, 4))).alloc (.cells #[.int .u8 98] 5 (1, 2))) (some ⟨W3.heap.size + 1, 0, none⟩) 1 [98] :=
    byt_lit _ [98] _ _ _ (1, 2) (by have := heap_alloc_new (W3.alloc (.cells #[.int .u8 107, .int .u8 101, .int .u8 121] 5 (3, 4))) (.cells #[.int .u8 98] 5 (1, 2)); rwa [World.size_alloc] at this) rfl
  have hK4 := HK3.out.later (hal1.trans (hal2.mono (by omega)))
  refine (mac_any _ 3 3 [107, 101, 121] _ 1 1 [98] _ hA1 (fun e => by cases e) (by omega) (by omega) (by unfold maxLen; omega) hC1 (fun e => by cases e) (by omega) (by omega) (by unfold maxLen; omega) (((HTab.out.later HK3.out.bel).alloc _).alloc _)).mono ?_
  rintro e w4 ⟨rfl, hb4⟩
  have HK4 : Hid (K3 w w1.heap.size d1 d2 d3 w4) := hK4.later hb4
  have lm := macB_length [107, 101, 121] [98]
  have hmm := shown_macs
  generalize macB [107, 101, 121] [98] = M at lm hmm ⊢
  clear hal1 hal2 hA1 hC1 hK4 hb4 HK3 kst1 kst2 kst3
  go_wp2_with fail
  have hal1 : Below w4.heap.size w4 (w4.alloc (.cells #[.int .u8 107, .int .u8 101, .int .u8 121, .int .u8 0] 5 (4, 5))) := (Below.refl _ _).alloc (Nat.le_refl _) _
  have hal2 : Below (w4.heap.size + 1) (w4.alloc (.cells #[.int .u8 107, .int .u8 101, .int .u8 121, .int .u8 0] 5 (4, 5))) ((w4.alloc (.cells #[.int .u8 107, .int .u8 101, .int .u8 121, .int .u8 0] 5 (4, 5))).alloc (.cells #[.int .u8 98] 5 (1, 2))) := (Below.refl _ _).alloc (by simp) _
  have hA1 : Byt ((w4.alloc (.cells #[.int .u8 107, .int .u8 101, .int .u8 121, .int .u8 0] 5 (4, 5))).alloc (.cells #[.int .u8 98] 5 (1, 2))) (some ⟨w4.heap.size, 0, none⟩) 4 [107, 101, 121, 0] :=
    (byt_lit _ [107, 101, 121, 0] _ _ _ (4, 5) (heap_alloc_new w4 _) rfl).later ((Below.refl _ _).alloc (Nat.le_refl _) _)
  have hC1 : Byt ((w4.alloc (.cells #[.int .u8 107, .int .u8 101, .int .u8 121, .int .u8 0] 5 (4, 5))).alloc (.cells #[.int .u8 98] 5 (1, 2))) (some ⟨w4.heap.size + 1, 0, none⟩) 1 [98] :=
    byt_lit _ [98] _ _ _ (1, 2) (by have := heap_alloc_new (w4.alloc (.cells #[.int .u8 107, .int .u8 101, .int .u8 121, .int .u8 0] 5 (4, 5))) (.cells #[.int .u8 98] 5 (1, 2)); rwa [World.size_alloc] at this) rfl
  have hK5 := HK4.out.later (hal1.trans (hal2.mono (by omega)))
  refine (mac_any _ 4 4 [107, 101, 121, 0] _ 1 1 [98] _ hA1 (fun e => by cases e) (by omega) (by omega) (by unfold maxLen; omega) hC1 (fun e => by cases e) (by omega) (by omega) (by unfold maxLen; omega) (((HTab.out.later HK4.out.bel).alloc _).alloc _)).mono ?_
  rintro e w5 ⟨rfl, hb5⟩
  rw [← hmm]
  have HK5 : Hid (K3 w w1.heap.size d1 d2 d3 w5) := hK5.later hb5
  have hq1 := arr_eq w5 25 32 M M lm lm Tryd.underlying25
  have hq2 := arr_eq w5 25 32 d1 d2 l1 l2 Tryd.underlying25
  have hq3 := arr_eq w5 25 32 d2 d3 l2 l3 Tryd.underlying25
  have hq4 : (Op.equalIn 10000 25 (.agg (d1.map bv).toArray) (.agg #[.int .u8 0, .int .u8 0, .int .u8 0, .int .u8 0, .int .u8 0, .int .u8 0, .int .u8 0, .int .u8 0, .int .u8 0, .int .u8 0, .int .u8 0, .int .u8 0, .int .u8 0, .int .u8 0, .int .u8 0, .int .u8 0, .int .u8 0, .int .u8 0, .int .u8 0, .int .u8 0, .int .u8 0, .int .u8 0, .int .u8 0, .int .u8 0, .int .u8 0, .int .u8 0, .int .u8 0, .int .u8 0, .int .u8 0, .int .u8 0, .int .u8 0, .int .u8 0])).run Tryd.prog w5 = .ok (decide (d1 = List.replicate 32 0)) w5 := arr_eq w5 25 32 d1 (List.replicate 32 0) l1 rfl Tryd.underlying25
  have e2 : d1 ≠ d2 := fun e => n1 (by rw [e])
  have e3 : d2 ≠ d3 := fun e => n2 (by rw [e])
  have e4 : d1 ≠ List.replicate 32 0 := fun e => n3 (by rw [e]; rfl)
  rw [decide_eq_true rfl] at hq1
  rw [decide_eq_false e2] at hq2
  rw [decide_eq_false e3] at hq3
  rw [decide_eq_false e4] at hq4
  clear hal1 hal2 hA1 hC1 hK5 hb5 HK4 hmm kd0 kd1
  go_wp2_with (first | refine wpList_load_row_if rfl 25 _ rfl w1.heap.size rfl 25 _ (0, 0) _ HK5.out.a Tryd.underlying25 rfl I1.out ?_ | refine wpList_load_row_if rfl 25 _ rfl (w1.heap.size + 1) rfl 25 _ (0, 0) _ HK5.out.b Tryd.underlying25 rfl I2.out ?_ | refine wpList_load_row_if rfl 25 _ rfl (w1.heap.size + 1 + 1) rfl 25 _ (0, 0) _ HK5.out.c Tryd.underlying25 rfl I3.out ?_)
  go_ret
  exact ⟨rfl, HK5.out.bel⟩
end Go.Proofs.YthjkjfoelekeeaaDoor
