/- KdfChains: each key is a Mac of the one ahead of it. For every key and row of bytes, where the program's tables are as its text lays them. -/
import Derived.Test.YthjkjfoelekeeaaDoorKdfShown
import Derived.Test.YthjkjfoelekeeaaDoorAppW
import Derived.Test.YthjkjfoelekeeaaDoorBlkF
namespace Go.Proofs.YthjkjfoelekeeaaDoor.kdfChains
open Go.ChangeShapes Go.WideShapes Go.ChangeAt Go.RowKit
set_option linter.unusedVariables false

/-- A middle piece of an order. -/
theorem sched_mid {P : Program} {ops : Array Oper} {Q : Exit → Act → World → Prop} {G : World → World → Prop} {fuel0 : Nat} {listed : Array Bool} {a : Act} {w : World} (hm : P.follows .mixedOrders = true) (hrefl : ∀ w, G w w) (htrans : ∀ a b c, G a b → G b c → G a c) (hs : Region.noSelect ops = true)
    (s : List (Nat × Bool)) (fuel : Nat) (listed' : Array Bool) (hsz : fuel + s.length = fuel0) (hto : schedTo .any ops s listed = some listed')
    (h : ∀ K : Act → World → Prop, Hid (∀ a w, wpAnyG P .any ops (NoPanic Q) G fuel listed' a w → K a w) → wpSched P ops (NoPanic Q) G K s a w) : wpAnyG P .any ops (NoPanic Q) G fuel0 listed a w := by
  have := sched_sound (Q := NoPanic Q) rfl hrefl htrans hs (fun _ _ _ _ _ h => h) fuel listed' s listed a w hto (h _ (fun _ _ h => h))
  rw [hsz] at this
  exact this
theorem oper_append {P : Program} {Q : Exit → Act → World → Prop} {o : Oper} {a : Act} {w w2 : World} {K : Act → World → Prop} {s x : Operand} {t : TypeId} {vs vx v : Value} (hop : o.op = .call { callee := .builtin .append, args := #[s, x], argTypes := #[t, t] }) (hs : a.eval s = vs) (hx : a.eval x = vx)
    (hr : (Builtin.append_ #[t, t] o.type #[vs, vx]).run P w = .ok v w2) (h : K (a.put o.dst v) w2) : o.wp P a w K Q := by
  refine oper_val (v := v) (w' := w2) ?_ h
  unfold execOp
  simp only [hop, resolve, invoke, builtin, Sem.run_bind, Sem.run_pure, Result.andThen_ok, List.map_toArray, List.map_cons, List.map_nil, hs, hx, hr]
/-- The keys, and what is made behind them. -/
structure KC (w : World) (B kx tb : Nat) (d1 d2 d3 T : List UInt8) (W : World) : Prop where
  a : Arr W kx 25 d1
  b : Arr W (kx + 1) 25 d2
  c : Arr W (kx + 1 + 1) 25 d3
  t : Arr W tb 25 T
  lx : kx + 1 + 1 < B
  lt : tb < B
  wB : w.heap.size ≤ B
  sz : B ≤ W.heap.size
  bel : Below w.heap.size w W
theorem KC.step {w W W' : World} {B kx tb : Nat} {d1 d2 d3 T : List UInt8} (x : KC w B kx tb d1 d2 d3 T W) (hb : Below B W W') : KC w B kx tb d1 d2 d3 T W' := by
  have h1 := x.lx
  exact ⟨x.a.below hb (by omega), x.b.below hb (by omega), x.c.below hb (by omega), x.t.below hb x.lt, x.lx, x.lt, x.wB, Nat.le_trans x.sz hb.size, x.bel.trans (hb.mono x.wB)⟩
/-- What is made of a piece, as far as it is there. -/
structure Gm (B : Nat) (d : List UInt8) (c : UInt8) (o1 o2 : Option Value) (o3 : Option Nat) (W : World) : Prop where
  p1 : ∀ v, o1 = some v → W.ownsRow B 5 1 v 0 (([] : List UInt8).map bv)
  p2 : ∀ v, o2 = some v → W.ownsRow B 5 1 v 32 (d.map bv)
  p3 : ∀ g, o3 = some g → B ≤ g ∧ W.heap[g]? = some (.cells #[bv c] 5 (0, 0))
  q1 : ∀ g v, o3 = some g → o1 = some v → v.ownBlock ≠ some g
  q2 : ∀ g v, o3 = some g → o2 = some v → v.ownBlock ≠ some g
  sz : B ≤ W.heap.size
theorem Gm.new (B : Nat) (d : List UInt8) (c : UInt8) (W : World) (h : B ≤ W.heap.size) : Gm B d c none none none W :=
  ⟨(fun _ e => by cases e), (fun _ e => by cases e), (fun _ e => by cases e), (fun _ _ e => by cases e), (fun _ _ e => by cases e), h⟩
theorem own_alloc {w : World} {base : Nat} {v : Value} {n : Nat} {xs : List Value} (h : w.ownsRow base 5 1 v n xs) (o : Obj) : (w.alloc o).ownsRow base 5 1 v n xs :=
  own_but (row := none) h ⟨rfl, rfl, rfl, by simp, fun k hk _ => Below.heap_alloc _ _ _ hk⟩ (fun _ _ e => by cases e)
theorem Gm.one {B : Nat} {d : List UInt8} {c : UInt8} {o3 : Option Nat} {W : World} (x : Gm B d c none none o3 W) : Gm B d c (some (.slice (some ⟨W.heap.size, 0, none⟩) 0 0)) none o3 (W.alloc (.cells #[] 5)) := by
  refine ⟨fun v e => ?_, (fun _ e => by cases e), fun g e => ?_, fun g v e e' => ?_, (fun _ _ _ e => by cases e), by rw [World.size_alloc]; exact Nat.le_succ_of_le x.sz⟩
  · cases e
    exact ⟨rfl, .inr ⟨W.heap.size, 0, #[], rfl, x.sz, heap_alloc_new W _, Nat.le_refl _, Nat.zero_le _, rfl, rfl⟩⟩
  · obtain ⟨h1, h2⟩ := x.p3 g e
    exact ⟨h1, by rw [Below.heap_alloc _ _ _ (Array.getElem?_eq_some_iff.1 h2).1]; exact h2⟩
  · cases e'
    have := (Array.getElem?_eq_some_iff.1 (x.p3 g e).2).1
    intro e2
    cases e2
    exact absurd this (Nat.lt_irrefl _)
theorem Gm.three {B : Nat} {d : List UInt8} {c : UInt8} {o1 o2 : Option Value} {W : World} (x : Gm B d c o1 o2 none W) : Gm B d c o1 o2 (some W.heap.size) (W.alloc (.cells #[bv c] 5)) := by
  refine ⟨fun v e => own_alloc (x.p1 v e) _, fun v e => own_alloc (x.p2 v e) _, fun g e => ?_, fun g v e e' e2 => ?_, fun g v e e' e2 => ?_, by rw [World.size_alloc]; exact Nat.le_succ_of_le x.sz⟩
  · cases e
    exact ⟨x.sz, heap_alloc_new W _⟩
  · cases e
    have := (own_base (x.p1 v e') _ e2).2
    omega
  · cases e
    have := (own_base (x.p2 v e') _ e2).2
    omega
theorem Gm.two {B kb : Nat} {d : List UInt8} {c : UInt8} {v1 : Value} {o3 : Option Nat} {W : World} (x : Gm B d c (some v1) none o3 W) (hk : Byt W (some ⟨kb, 0, none⟩) 32 d) :
    ∃ v w', (Builtin.append_ #[22, 22] 22 #[v1, .slice (some ⟨kb, 0, none⟩) 32 32]).run Tryd.prog W = .ok v w' ∧ Gm B d c none (some v) o3 w' ∧ Below B W w' := by
  have hown := x.p1 v1 rfl
  obtain ⟨v, w', hr, ho, hg, hw⟩ := append_where W B v1 0 [] hown (some ⟨kb, 0, none⟩) 32 32 d hk (fun e => by cases e) x.sz (by omega)
  have hb0 := own_base hown
  rw [Nat.zero_add, List.nil_append] at ho
  refine ⟨v, w', hr, ⟨(fun _ e => by cases e), fun v' e => by cases e; exact ho, fun g e => ?_, (fun _ _ _ e => by cases e), fun g v' e e' e2 => ?_, Nat.le_trans x.sz hg.size⟩, ⟨hg.os, hg.tape, hg.output, hg.size, fun k hk => hg.block k (by have := x.sz; omega) (fun e => by have := (hb0 k e.symm).1; omega)⟩⟩
  · obtain ⟨h1, h2⟩ := x.p3 g e
    exact ⟨h1, by rw [hg.block g (Array.getElem?_eq_some_iff.1 h2).1 (fun e2 => x.q1 g v1 e rfl e2.symm)]; exact h2⟩
  · cases e'
    rcases hw with h | h
    · rw [h] at e2
      exact x.q1 g v1 e rfl e2
    · rw [h] at e2
      cases e2
      have := (Array.getElem?_eq_some_iff.1 (x.p3 _ e).2).1
      omega
/-- The end of a piece: one byte more. -/
theorem Gm.end_ {B g : Nat} {d : List UInt8} {c : UInt8} {v2 : Value} {W : World} (x : Gm B d c none (some v2) (some g) W) :
    ∃ a cap w', (Builtin.append_ #[22, 22] 22 #[v2, .slice (some ⟨g, 0, none⟩) 1 1]).run Tryd.prog W = .ok (.slice a 33 cap) w' ∧ Byt w' a 33 (d ++ [c]) ∧ 33 ≤ cap ∧ cap ≤ maxLen ∧ (a = none → cap = 0) ∧ Below B W w' := by
  have hown := x.p2 v2 rfl
  have hB : Byt W (some ⟨g, 0, none⟩) 1 [c] := byt_row 1 rfl (x.p3 g rfl).2
  obtain ⟨v, w', hr, ho, hg, hw⟩ := append_where W B v2 32 d hown (some ⟨g, 0, none⟩) 1 1 [c] hB (fun e => by cases e) x.sz (by omega)
  have hb0 := own_base hown
  obtain ⟨a, cap, rfl, h1, h2, h3, h4⟩ := own_parts ho
  exact ⟨a, cap, w', hr, h1, h2, h3, h4, ⟨hg.os, hg.tape, hg.output, hg.size, fun k hk => hg.block k (by have := x.sz; omega) (fun e => by have := (hb0 k e.symm).1; omega)⟩⟩

set_option maxHeartbeats 8000000 in
set_option maxRecDepth 100000 in
theorem walk (l0 : List UInt8) (a1 : Option Addr) (len1 cap1 : Nat) (z1 : List Int) (w : World) (w0 : l0.length = 32) (w1 : IsRow .u8 w a1 len1 cap1 z1) (htab : Tab w) :
    Calls Tryd.prog 6 #[.agg (l0.map bv).toArray, .slice a1 len1 cap1] w fun e w' => e = .returned (.bool true) ∧ Below w.heap.size w w' := by
  have hnil1 := krow_nil w1
  obtain ⟨m, n, hnE30, hn1b, hn2b, hncb, hncmb, hBmb⟩ := cut_row w1 200
  have hnEb : (if (200 : Int) < (len1 : Int) then (200 : Int) else (len1 : Int)) = (n : Int) := hnE30
  have hlmb := hBmb.1
  have HB0b : Hid (Byt w a1 n m) := hBmb
  clear hnE30 w1 hBmb
  have IK : (Tryd.prog.info? 25).map (·.size) = some 32 := by kernel_rfl
  have hIK : Hid ((Tryd.prog.info? 25).map (·.size) = some (l0.map bv).toArray.size) := info_size IK l0 w0
  clear IK
  have HTab : Hid (Tab w) := htab
  clear htab
  go_enter Tryd.func6, Tryd.ntmps6
  go_wp2_with fail
  refine (kdfShown_any _ (HTab.out.alloc _)).mono ?_
  rintro e w4 ⟨rfl, hb4⟩
  have hbel0 : Below w.heap.size w (w.alloc (.cells (l0.map bv).toArray 25)) := (Below.refl _ _).alloc (Nat.le_refl _) _
  have HK4 : Hid (Arr w4 w.heap.size 25 l0) := (Arr.new w _ l0).later hb4
  have HW4 : Hid (Below w.heap.size w w4) := hbel0.trans (hb4.mono hbel0.size)
  clear hb4 hbel0
  go_wp2_with (first | refine wpList_load_row rfl 25 _ rfl w.heap.size rfl 25 _ (0, 0) _ HK4.out Tryd.underlying25 rfl hIK.out ?_)
  refine (derive_any l0 a1 n cap1 m _ w0 (HB0b.out.later HW4.out) hnil1 (by omega) (by omega) hncmb (HTab.out.later HW4.out)).mono ?_
  rintro e w1 ⟨rfl, hb1⟩
  obtain ⟨d1, hd1⟩ : ∃ d, der1 l0 m = d := ⟨_, rfl⟩
  obtain ⟨d2, hd2⟩ : ∃ d, der2 l0 m = d := ⟨_, rfl⟩
  obtain ⟨d3, hd3⟩ : ∃ d, der3 l0 m = d := ⟨_, rfl⟩
  have l1 : d1.length = 32 := by rw [← hd1]; exact der1_length _ _
  have l2 : d2.length = 32 := by rw [← hd2]; exact der2_length _ _
  have l3 : d3.length = 32 := by rw [← hd3]; exact der3_length _ _
  rw [hd1, hd2, hd3]
  have hW1 : Below w.heap.size w w1 := HW4.out.trans (hb1.mono HW4.out.size)
  have hKey1 := HK4.out.later hb1
  have hK0 := K3.new hW1 (List.replicate 32 0) (List.replicate 32 0) (List.replicate 32 0)
  have hst1 := store_row _ _ _ _ (d1.map bv) hK0.a (by simp [l1]) (bv_oneCell d1)
  have hK1 := hK0.putA d1
  have hkk : ∀ (V : World) (g : Nat) (cs : Array Value), w1.heap.size ≤ g → Arr V w.heap.size 25 l0 → Arr (V.setRow g cs) w.heap.size 25 l0 := fun V g cs hg h => h.keep' (by have := hKey1.lt; omega) cs
  have hKy0 : Arr (((w1.alloc (.cells ((List.replicate 32 (0 : UInt8)).map bv).toArray 25)).alloc (.cells ((List.replicate 32 (0 : UInt8)).map bv).toArray 25)).alloc (.cells ((List.replicate 32 (0 : UInt8)).map bv).toArray 25)) w.heap.size 25 l0 :=
    ((hKey1.later ((Below.refl _ _).alloc (Nat.le_refl _) _)).later ((Below.refl _ _).alloc (Nat.le_refl _) _)).later ((Below.refl _ _).alloc (Nat.le_refl _) _)
  have hKy1 := hkk _ w1.heap.size (d1.map bv).toArray (Nat.le_refl _) hKy0
  obtain ⟨W1, hW1e⟩ : ∃ W1, (((w1.alloc (.cells ((List.replicate 32 (0 : UInt8)).map bv).toArray 25)).alloc (.cells ((List.replicate 32 (0 : UInt8)).map bv).toArray 25)).alloc (.cells ((List.replicate 32 (0 : UInt8)).map bv).toArray 25)).setRow w1.heap.size (d1.map bv).toArray = W1 := ⟨_, rfl⟩
  rw [hW1e] at hst1 hK1 hKy1
  have kst1 : (storeCells ⟨w1.heap.size, 0, none⟩ (d1.map bv)).run Tryd.prog (((w1.alloc (.cells #[.int .u8 0, .int .u8 0, .int .u8 0, .int .u8 0, .int .u8 0, .int .u8 0, .int .u8 0, .int .u8 0, .int .u8 0, .int .u8 0, .int .u8 0, .int .u8 0, .int .u8 0, .int .u8 0, .int .u8 0, .int .u8 0, .int .u8 0, .int .u8 0, .int .u8 0, .int .u8 0, .int .u8 0, .int .u8 0, .int .u8 0, .int .u8 0, .int .u8 0, .int .u8 0, .int .u8 0, .int .u8 0, .int .u8 0, .int .u8 0, .int .u8 0, .int .u8 0] 25)).alloc (.cells #[.int .u8 0, .int .u8 0, .int .u8 0, .int .u8 0, .int .u8 0, .int .u8 0, .int .u8 0, .int .u8 0, .int .u8 0, .int .u8 0, .int .u8 0, .int .u8 0, .int .u8 0, .int .u8 0, .int .u8 0, .int .u8 0, .int .u8 0, .int .u8 0, .int .u8 0, .int .u8 0, .int .u8 0, .int .u8 0, .int .u8 0, .int .u8 0, .int .u8 0, .int .u8 0, .int .u8 0, .int .u8 0, .int .u8 0, .int .u8 0, .int .u8 0, .int .u8 0] 25)).alloc (.cells #[.int .u8 0, .int .u8 0, .int .u8 0, .int .u8 0, .int .u8 0, .int .u8 0, .int .u8 0, .int .u8 0, .int .u8 0, .int .u8 0, .int .u8 0, .int .u8 0, .int .u8 0, .int .u8 0, .int .u8 0, .int .u8 0, .int .u8 0, .int .u8 0, .int .u8 0, .int .u8 0, .int .u8 0, .int .u8 0, .int .u8 0, .int .u8 0, .int .u8 0, .int .u8 0, .int .u8 0, .int .u8 0, .int .u8 0, .int .u8 0, .int .u8 0, .int .u8 0] 25)) = .ok () W1 := hst1
  have kst2 := store_row _ _ _ _ (d2.map bv) hK1.b (by simp [l2]) (bv_oneCell d2)
  have hK2 := hK1.putB d2
  have hKy2 := hkk _ (w1.heap.size + 1) (d2.map bv).toArray (by omega) hKy1
  obtain ⟨W2, hW2e⟩ : ∃ W2, W1.setRow (w1.heap.size + 1) (d2.map bv).toArray = W2 := ⟨_, rfl⟩
  rw [hW2e] at kst2 hK2 hKy2
  have kst3 := store_row _ _ _ _ (d3.map bv) hK2.c (by simp [l3]) (bv_oneCell d3)
  have hK3 := hK2.putC d3
  have hKy3 := hkk _ (w1.heap.size + 1 + 1) (d3.map bv).toArray (by omega) hKy2
  obtain ⟨W3, hW3e⟩ : ∃ W3, W2.setRow (w1.heap.size + 1 + 1) (d3.map bv).toArray = W3 := ⟨_, rfl⟩
  rw [hW3e] at kst3 hK3 hKy3
  have HK3 : Hid (K3 w w1.heap.size d1 d2 d3 W3) := hK3
  have HKy : Hid (Byt W3 (some ⟨w.heap.size, 0, none⟩) 32 l0) := hKy3.byt 32 w0
  clear hK0 hK1 hK2 hK3 hb1 hW1 hW1e hW2e hW3e hst1 hKey1 hkk hKy0 hKy1 hKy2 hKy3 HK4 HW4
  go_wp2_with fail
  clear kst1 kst2 kst3
  refine (mac_any (some ⟨w.heap.size, 0, none⟩) 32 32 l0 a1 n cap1 m W3 HKy.out (fun e => by cases e) (by omega) (by omega) (by unfold maxLen; omega) (HB0b.out.later HK3.out.bel) hnil1 (by omega) (by omega) hncmb (HTab.out.later HK3.out.bel)).mono ?_
  rintro e w5 ⟨rfl, hb5⟩
  have hTl := macB_length l0 m
  obtain ⟨T, hTe⟩ : ∃ T, macB l0 m = T := ⟨_, rfl⟩
  rw [hTe] at hTl ⊢
  have HM1 : Hid (macB T [1] = d1) := by show _ = _; rw [← hTe]; exact hd1
  have HM2 : Hid (macB T (d1 ++ [2]) = d2) := by show _ = _; rw [← hTe, ← hd1]; exact hd2
  have HM3 : Hid (macB T (d2 ++ [3]) = d3) := by show _ = _; rw [← hTe, ← hd2]; exact hd3
  have hst := run_store_arr w5 25 T 32 hTl (by kernel_rfl)
  obtain ⟨W5, hW5⟩ : ∃ W5, w5.alloc (.cells (T.map bv).toArray 25) = W5 := ⟨_, rfl⟩
  have hgr5 : Below W3.heap.size W3 W5 := by rw [← hW5]; exact hb5.alloc hb5.size _
  have hT5 : Arr W5 w5.heap.size 25 T := by rw [← hW5]; exact Arr.new w5 _ _
  have hK5 := HK3.out.later hgr5
  have HC0 : Hid (KC w W5.heap.size w1.heap.size w5.heap.size d1 d2 d3 T W5) := ⟨hK5.a, hK5.b, hK5.c, hT5, hK5.c.lt, hT5.lt, hK5.bel.size, Nat.le_refl _, hK5.bel⟩
  rw [hW5] at hst
  clear hb5 hTe hgr5 hW5 hT5 hK5 HK3 HKy hd1 hd2 hd3
  go_wp2
  clear hst
  generalize w1.heap.size = kx at HC0 ⊢
  generalize w5.heap.size = tb at HC0 ⊢
  obtain ⟨V, hVd⟩ : ∃ V, W5.drew = V := ⟨_, rfl⟩
  have HVd : Hid (W5.drew = V) := hVd
  have HC1 : Hid (KC w W5.heap.size kx tb d1 d2 d3 T V) := HC0.out.step (by rw [← hVd]; exact (Below.refl _ _).drew)
  generalize W5.heap.size = B at HC1
  have I1 : Hid ((Tryd.prog.info? 25).map (·.size) = some (d1.map bv).toArray.size) := info_size (n := 32) (by kernel_rfl) d1 l1
  have I2 : Hid ((Tryd.prog.info? 25).map (·.size) = some (d2.map bv).toArray.size) := info_size (n := 32) (by kernel_rfl) d2 l2
  have I3 : Hid ((Tryd.prog.info? 25).map (·.size) = some (d3.map bv).toArray.size) := info_size (n := 32) (by kernel_rfl) d3 l3
  clear hVd HC0
  refine sched_begin (G := Below B) (by kernel_rfl) (fun _ => Below.refl _ _) (fun _ _ _ h k => Below.trans h k) (by kernel_rfl) [(0, true), (1, true), (2, true), (3, true), (4, false), (5, false), (6, true), (7, true), (8, true), (9, true), (10, true), (12, true)] 19 ((Array.replicate 31 false).mapIdx fun i _ => i < 11 || i == 12) rfl (by kernel_rfl) ?_
  intro KL hKL
  rw [HVd.out]
  iterate 2 (refine sched_take rfl (by rfl) (v := ?_) ?_ ?_; rotate_left; (intro w' hw'; clear hw'; go_simp; with_reducible rfl); go_simp)
  refine sched_take rfl (by rfl) (v := .agg (d1.map bv).toArray) (fun w' hw' => exec_load_row 25 _ rfl kx rfl 25 _ (0, 0) _ (HC1.out.step hw').a Tryd.underlying25 rfl I1.out) ?_
  go_simp
  iterate 1 (refine sched_take rfl (by rfl) (v := ?_) ?_ ?_; rotate_left; (intro w' hw'; clear hw'; go_simp; with_reducible rfl); go_simp)
  have hal : Below B V (V.alloc (.cells #[.int .u8 1] 5)) := (Below.refl _ _).alloc HC1.out.sz _
  refine sched_val rfl (by rfl) (v := .slice (some ⟨V.heap.size, 0, none⟩) 1 1) (w' := V.alloc (.cells #[.int .u8 1] 5)) (by go_simp; try rfl) hal ?_
  go_simp
  have hC2 := HC1.out.step hal
  refine sched_call (f := 9) (args := #[.slice (some ⟨tb, 0, none⟩) 32 32, .slice (some ⟨V.heap.size, 0, none⟩) 1 1]) rfl (by rfl) (by go_simp) ?_
  refine (mac_any (some ⟨tb, 0, none⟩) 32 32 T (some ⟨V.heap.size, 0, none⟩) 1 1 [1] _ (hC2.t.byt 32 hTl) (fun e => by cases e) (by omega) (by omega) (by unfold maxLen; omega) (byt_lit _ [1] V.heap.size _ _ (0, 0) (heap_alloc_new V _) rfl) (fun e => by cases e) (by omega) (by omega) (by unfold maxLen; omega) (HTab.out.later hC2.bel)).mono ?_
  rintro e w6 ⟨rfl, hb6⟩
  have hb6' := hb6.mono hC2.sz
  refine ⟨_, rfl, hb6', ?_⟩
  rw [HM1.out]
  have HC3 : Hid (KC w B kx tb d1 d2 d3 T w6) := hC2.step hb6'
  clear hal hC2 hb6 hb6' HC1 HVd
  generalize V.heap.size = g30
  go_simp
  iterate 3 (refine sched_take rfl (by rfl) (v := ?_) ?_ ?_; rotate_left; (intro w' hw'; clear hw'; have q1 := arr_eq w' 25 32 d1 d1 l1 l1 Tryd.underlying25; rw [decide_eq_true rfl] at q1; go_simp; with_reducible rfl); go_simp)
  refine sched_take rfl (by rfl) (v := .agg (d2.map bv).toArray) (fun w' hw' => exec_load_row 25 _ rfl (kx + 1) rfl 25 _ (0, 0) _ (HC3.out.step hw').b Tryd.underlying25 rfl I2.out) ?_
  go_simp
  iterate 2 (refine sched_take rfl (by rfl) (v := ?_) ?_ ?_; rotate_left; (intro w' hw'; clear hw'; go_simp; with_reducible rfl); go_simp)
  refine hKL.out _ _ ?_
  clear hKL
  have HG : Hid (Gm B d1 2 none none none w6) := Gm.new B d1 2 w6 HC3.out.sz
  refine sched_fork [11, 14] (by kernel_rfl) rfl ?_
  intro i hi
  simp only [List.mem_cons, List.not_mem_nil, or_false] at hi
  rcases hi with rfl | rfl
  · refine ⟨_, rfl, by rfl, oper_val (v := .slice (some ⟨w6.heap.size, 0, none⟩) 0 0) (w' := w6.alloc (.cells #[] 5)) (by go_simp; try rfl) ⟨(Below.refl _ _).alloc HG.out.sz _, ?_⟩⟩
    replace HG := hid_up HG.out.one
    replace HC3 := hid_up (HC3.out.step ((Below.refl B w6).alloc HC3.out.sz (.cells #[] 5)))
    generalize w6.alloc (.cells #[] 5) = V7 at HG HC3 ⊢
    generalize w6.heap.size = g2a at HG ⊢
    refine sched_fork [13, 14] (by kernel_rfl) rfl ?_
    intro i hi
    simp only [List.mem_cons, List.not_mem_nil, or_false] at hi
    rcases hi with rfl | rfl
    · obtain ⟨v2, V8, hr, hG', hbl⟩ := HG.out.two (HC3.out.a.byt 32 l1)
      refine ⟨_, rfl, by rfl, oper_append rfl rfl rfl hr ⟨hbl, ?_⟩⟩
      replace HG := hid_up hG'
      replace HC3 := hid_up (HC3.out.step hbl)
      clear hr hG' hbl
      refine sched_fork [14] (by kernel_rfl) rfl ?_
      intro i hi
      simp only [List.mem_cons, List.not_mem_nil, or_false] at hi
      subst hi
      refine ⟨_, rfl, by rfl, oper_val (v := .slice (some ⟨V8.heap.size, 0, none⟩) 1 1) (w' := V8.alloc (.cells #[bv 2] 5)) (by go_simp; try rfl) ⟨(Below.refl _ _).alloc HG.out.sz _, ?_⟩⟩
      replace HG := hid_up HG.out.three
      replace HC3 := hid_up (HC3.out.step ((Below.refl B V8).alloc HC3.out.sz (.cells #[bv 2] 5)))
      generalize V8.alloc (.cells #[bv 2] 5) = V9 at HG HC3 ⊢
      generalize V8.heap.size = g2c at HG ⊢
      obtain ⟨a2, c2, V10, hr, hB, hc, hcm, hcn, hbl⟩ := HG.out.end_
      have HB : Hid (Byt V10 a2 33 (d1 ++ [2])) := hB
      replace HC3 := hid_up (HC3.out.step hbl)
      refine sched_fork [15] (by kernel_rfl) rfl ?_
      intro i hi
      simp only [List.mem_cons, List.not_mem_nil, or_false] at hi
      subst hi
      refine ⟨_, rfl, by rfl, oper_append rfl rfl rfl hr ⟨hbl, ?_⟩⟩
      clear hr hB hbl HG
      refine sched_fork [16] (by kernel_rfl) rfl ?_
      intro i hi
      simp only [List.mem_cons, List.not_mem_nil, or_false] at hi
      subst hi
      refine ⟨_, rfl, by rfl, oper_call (f := 9) (args := #[.slice (some ⟨tb, 0, none⟩) 32 32, .slice a2 33 c2]) (by go_simp) ?_⟩
      refine (mac_any (some ⟨tb, 0, none⟩) 32 32 T a2 33 c2 (d1 ++ [2]) V10 (HC3.out.t.byt 32 hTl) (fun e => by cases e) (by omega) (by omega) (by unfold maxLen; omega) HB.out hcn (by omega) hc hcm (HTab.out.later HC3.out.bel)).mono ?_
      rintro e V11 ⟨rfl, hb⟩
      refine ⟨_, rfl, hb.mono HC3.out.sz, ?_⟩
      rw [HM2.out]
      replace HC3 := hid_up (HC3.out.step (hb.mono HC3.out.sz))
      clear hb HB hc hcm hcn
      refine sched_mid (by kernel_rfl) (fun _ => Below.refl _ _) (fun _ _ _ h k => Below.trans h k) (by kernel_rfl) [(17, true), (18, true), (19, true), (20, true), (21, true), (23, true)] 8 ((Array.replicate 31 false).mapIdx fun i _ => i < 22 || i == 23) rfl (by kernel_rfl) ?_
      intro KM hKM
      go_simp
      iterate 3 (refine sched_take rfl (by rfl) (v := ?_) ?_ ?_; rotate_left; (intro w' hw'; clear hw'; have q1 := arr_eq w' 25 32 d2 d2 l2 l2 Tryd.underlying25; rw [decide_eq_true rfl] at q1; go_simp; with_reducible rfl); go_simp)
      refine sched_take rfl (by rfl) (v := .agg (d3.map bv).toArray) (fun w' hw' => exec_load_row 25 _ rfl (kx + 1 + 1) rfl 25 _ (0, 0) _ (HC3.out.step hw').c Tryd.underlying25 rfl I3.out) ?_
      go_simp
      iterate 2 (refine sched_take rfl (by rfl) (v := ?_) ?_ ?_; rotate_left; (intro w' hw'; clear hw'; go_simp; with_reducible rfl); go_simp)
      refine hKM.out _ _ ?_
      clear hKM
      have HG : Hid (Gm B d2 3 none none none V11) := Gm.new B d2 3 V11 HC3.out.sz
      refine sched_fork [22, 25] (by kernel_rfl) rfl ?_
      intro i hi
      simp only [List.mem_cons, List.not_mem_nil, or_false] at hi
      rcases hi with rfl | rfl
      · refine ⟨_, rfl, by rfl, oper_val (v := .slice (some ⟨V11.heap.size, 0, none⟩) 0 0) (w' := V11.alloc (.cells #[] 5)) (by go_simp; try rfl) ⟨(Below.refl _ _).alloc HG.out.sz _, ?_⟩⟩
        replace HG := hid_up HG.out.one
        replace HC3 := hid_up (HC3.out.step ((Below.refl B V11).alloc HC3.out.sz (.cells #[] 5)))
        generalize V11.alloc (.cells #[] 5) = V12 at HG HC3 ⊢
        generalize V11.heap.size = g3a at HG ⊢
        refine sched_fork [24, 25] (by kernel_rfl) rfl ?_
        intro i hi
        simp only [List.mem_cons, List.not_mem_nil, or_false] at hi
        rcases hi with rfl | rfl
        · obtain ⟨v3, V13, hr, hG', hbl⟩ := HG.out.two (HC3.out.b.byt 32 l2)
          refine ⟨_, rfl, by rfl, oper_append rfl rfl rfl hr ⟨hbl, ?_⟩⟩
          replace HG := hid_up hG'
          replace HC3 := hid_up (HC3.out.step hbl)
          clear hr hG' hbl
          refine sched_fork [25] (by kernel_rfl) rfl ?_
          intro i hi
          simp only [List.mem_cons, List.not_mem_nil, or_false] at hi
          subst hi
          refine ⟨_, rfl, by rfl, oper_val (v := .slice (some ⟨V13.heap.size, 0, none⟩) 1 1) (w' := V13.alloc (.cells #[bv 3] 5)) (by go_simp; try rfl) ⟨(Below.refl _ _).alloc HG.out.sz _, ?_⟩⟩
          replace HG := hid_up HG.out.three
          replace HC3 := hid_up (HC3.out.step ((Below.refl B V13).alloc HC3.out.sz (.cells #[bv 3] 5)))
          generalize V13.alloc (.cells #[bv 3] 5) = V14 at HG HC3 ⊢
          generalize V13.heap.size = g3c at HG ⊢
          obtain ⟨a3, c3, V15, hr, hB, hc, hcm, hcn, hbl⟩ := HG.out.end_
          have HB : Hid (Byt V15 a3 33 (d2 ++ [3])) := hB
          replace HC3 := hid_up (HC3.out.step hbl)
          refine sched_end (G := Below B) (fun _ => Below.refl _ _) (fun _ _ _ h k => Below.trans h k) (by kernel_rfl) [(26, false), (27, false), (28, true), (29, true), (30, true)] rfl (by kernel_rfl) ?_
          intro KE hKE
          go_simp
          refine sched_append rfl (by rfl) rfl rfl rfl hr hbl ?_
          clear hr hB hbl HG
          go_simp
          refine sched_call (f := 9) (args := #[.slice (some ⟨tb, 0, none⟩) 32 32, .slice a3 33 c3]) rfl (by rfl) (by go_simp) ?_
          refine (mac_any (some ⟨tb, 0, none⟩) 32 32 T a3 33 c3 (d2 ++ [3]) V15 (HC3.out.t.byt 32 hTl) (fun e => by cases e) (by omega) (by omega) (by unfold maxLen; omega) HB.out hcn (by omega) hc hcm (HTab.out.later HC3.out.bel)).mono ?_
          rintro e V16 ⟨rfl, hb⟩
          refine ⟨_, rfl, hb.mono HC3.out.sz, ?_⟩
          rw [HM3.out]
          replace HC3 := hid_up (HC3.out.step (hb.mono HC3.out.sz))
          clear hb HB hc hcm hcn
          go_simp
          iterate 3 (refine sched_take rfl (by rfl) (v := ?_) ?_ ?_; rotate_left; (intro w' hw'; clear hw'; have q1 := arr_eq w' 25 32 d3 d3 l3 l3 Tryd.underlying25; rw [decide_eq_true rfl] at q1; go_simp; with_reducible rfl); go_simp)
          refine sched_done hKE ?_
          go_wp2
          go_ret
          exact ⟨rfl, HC3.out.bel⟩
        · refine ⟨_, rfl, by rfl, oper_val (v := .slice (some ⟨V12.heap.size, 0, none⟩) 1 1) (w' := V12.alloc (.cells #[bv 3] 5)) (by go_simp; try rfl) ⟨(Below.refl _ _).alloc HG.out.sz _, ?_⟩⟩
          replace HG := hid_up HG.out.three
          replace HC3 := hid_up (HC3.out.step ((Below.refl B V12).alloc HC3.out.sz (.cells #[bv 3] 5)))
          generalize V12.alloc (.cells #[bv 3] 5) = V17 at HG HC3 ⊢
          generalize V12.heap.size = g3c at HG ⊢
          refine sched_fork [24] (by kernel_rfl) rfl ?_
          intro i hi
          simp only [List.mem_cons, List.not_mem_nil, or_false] at hi
          subst hi
          obtain ⟨v3, V18, hr, hG', hbl⟩ := HG.out.two (HC3.out.b.byt 32 l2)
          refine ⟨_, rfl, by rfl, oper_append rfl rfl rfl hr ⟨hbl, ?_⟩⟩
          replace HG := hid_up hG'
          replace HC3 := hid_up (HC3.out.step hbl)
          clear hr hG' hbl
          obtain ⟨a3, c3, V19, hr, hB, hc, hcm, hcn, hbl⟩ := HG.out.end_
          have HB : Hid (Byt V19 a3 33 (d2 ++ [3])) := hB
          replace HC3 := hid_up (HC3.out.step hbl)
          refine sched_end (G := Below B) (fun _ => Below.refl _ _) (fun _ _ _ h k => Below.trans h k) (by kernel_rfl) [(26, false), (27, false), (28, true), (29, true), (30, true)] rfl (by kernel_rfl) ?_
          intro KE hKE
          go_simp
          refine sched_append rfl (by rfl) rfl rfl rfl hr hbl ?_
          clear hr hB hbl HG
          go_simp
          refine sched_call (f := 9) (args := #[.slice (some ⟨tb, 0, none⟩) 32 32, .slice a3 33 c3]) rfl (by rfl) (by go_simp) ?_
          refine (mac_any (some ⟨tb, 0, none⟩) 32 32 T a3 33 c3 (d2 ++ [3]) V19 (HC3.out.t.byt 32 hTl) (fun e => by cases e) (by omega) (by omega) (by unfold maxLen; omega) HB.out hcn (by omega) hc hcm (HTab.out.later HC3.out.bel)).mono ?_
          rintro e V20 ⟨rfl, hb⟩
          refine ⟨_, rfl, hb.mono HC3.out.sz, ?_⟩
          rw [HM3.out]
          replace HC3 := hid_up (HC3.out.step (hb.mono HC3.out.sz))
          clear hb HB hc hcm hcn
          go_simp
          iterate 3 (refine sched_take rfl (by rfl) (v := ?_) ?_ ?_; rotate_left; (intro w' hw'; clear hw'; have q1 := arr_eq w' 25 32 d3 d3 l3 l3 Tryd.underlying25; rw [decide_eq_true rfl] at q1; go_simp; with_reducible rfl); go_simp)
          refine sched_done hKE ?_
          go_wp2
          go_ret
          exact ⟨rfl, HC3.out.bel⟩
      · refine ⟨_, rfl, by rfl, oper_val (v := .slice (some ⟨V11.heap.size, 0, none⟩) 1 1) (w' := V11.alloc (.cells #[bv 3] 5)) (by go_simp; try rfl) ⟨(Below.refl _ _).alloc HG.out.sz _, ?_⟩⟩
        replace HG := hid_up HG.out.three
        replace HC3 := hid_up (HC3.out.step ((Below.refl B V11).alloc HC3.out.sz (.cells #[bv 3] 5)))
        generalize V11.alloc (.cells #[bv 3] 5) = V21 at HG HC3 ⊢
        generalize V11.heap.size = g3c at HG ⊢
        refine sched_fork [22] (by kernel_rfl) rfl ?_
        intro i hi
        simp only [List.mem_cons, List.not_mem_nil, or_false] at hi
        subst hi
        refine ⟨_, rfl, by rfl, oper_val (v := .slice (some ⟨V21.heap.size, 0, none⟩) 0 0) (w' := V21.alloc (.cells #[] 5)) (by go_simp; try rfl) ⟨(Below.refl _ _).alloc HG.out.sz _, ?_⟩⟩
        replace HG := hid_up HG.out.one
        replace HC3 := hid_up (HC3.out.step ((Below.refl B V21).alloc HC3.out.sz (.cells #[] 5)))
        generalize V21.alloc (.cells #[] 5) = V22 at HG HC3 ⊢
        generalize V21.heap.size = g3a at HG ⊢
        refine sched_fork [24] (by kernel_rfl) rfl ?_
        intro i hi
        simp only [List.mem_cons, List.not_mem_nil, or_false] at hi
        subst hi
        obtain ⟨v3, V23, hr, hG', hbl⟩ := HG.out.two (HC3.out.b.byt 32 l2)
        refine ⟨_, rfl, by rfl, oper_append rfl rfl rfl hr ⟨hbl, ?_⟩⟩
        replace HG := hid_up hG'
        replace HC3 := hid_up (HC3.out.step hbl)
        clear hr hG' hbl
        obtain ⟨a3, c3, V24, hr, hB, hc, hcm, hcn, hbl⟩ := HG.out.end_
        have HB : Hid (Byt V24 a3 33 (d2 ++ [3])) := hB
        replace HC3 := hid_up (HC3.out.step hbl)
        refine sched_end (G := Below B) (fun _ => Below.refl _ _) (fun _ _ _ h k => Below.trans h k) (by kernel_rfl) [(26, false), (27, false), (28, true), (29, true), (30, true)] rfl (by kernel_rfl) ?_
        intro KE hKE
        go_simp
        refine sched_append rfl (by rfl) rfl rfl rfl hr hbl ?_
        clear hr hB hbl HG
        go_simp
        refine sched_call (f := 9) (args := #[.slice (some ⟨tb, 0, none⟩) 32 32, .slice a3 33 c3]) rfl (by rfl) (by go_simp) ?_
        refine (mac_any (some ⟨tb, 0, none⟩) 32 32 T a3 33 c3 (d2 ++ [3]) V24 (HC3.out.t.byt 32 hTl) (fun e => by cases e) (by omega) (by omega) (by unfold maxLen; omega) HB.out hcn (by omega) hc hcm (HTab.out.later HC3.out.bel)).mono ?_
        rintro e V25 ⟨rfl, hb⟩
        refine ⟨_, rfl, hb.mono HC3.out.sz, ?_⟩
        rw [HM3.out]
        replace HC3 := hid_up (HC3.out.step (hb.mono HC3.out.sz))
        clear hb HB hc hcm hcn
        go_simp
        iterate 3 (refine sched_take rfl (by rfl) (v := ?_) ?_ ?_; rotate_left; (intro w' hw'; clear hw'; have q1 := arr_eq w' 25 32 d3 d3 l3 l3 Tryd.underlying25; rw [decide_eq_true rfl] at q1; go_simp; with_reducible rfl); go_simp)
        refine sched_done hKE ?_
        go_wp2
        go_ret
        exact ⟨rfl, HC3.out.bel⟩
    · refine ⟨_, rfl, by rfl, oper_val (v := .slice (some ⟨V7.heap.size, 0, none⟩) 1 1) (w' := V7.alloc (.cells #[bv 2] 5)) (by go_simp; try rfl) ⟨(Below.refl _ _).alloc HG.out.sz _, ?_⟩⟩
      replace HG := hid_up HG.out.three
      replace HC3 := hid_up (HC3.out.step ((Below.refl B V7).alloc HC3.out.sz (.cells #[bv 2] 5)))
      generalize V7.alloc (.cells #[bv 2] 5) = V26 at HG HC3 ⊢
      generalize V7.heap.size = g2c at HG ⊢
      refine sched_fork [13] (by kernel_rfl) rfl ?_
      intro i hi
      simp only [List.mem_cons, List.not_mem_nil, or_false] at hi
      subst hi
      obtain ⟨v2, V27, hr, hG', hbl⟩ := HG.out.two (HC3.out.a.byt 32 l1)
      refine ⟨_, rfl, by rfl, oper_append rfl rfl rfl hr ⟨hbl, ?_⟩⟩
      replace HG := hid_up hG'
      replace HC3 := hid_up (HC3.out.step hbl)
      clear hr hG' hbl
      obtain ⟨a2, c2, V28, hr, hB, hc, hcm, hcn, hbl⟩ := HG.out.end_
      have HB : Hid (Byt V28 a2 33 (d1 ++ [2])) := hB
      replace HC3 := hid_up (HC3.out.step hbl)
      refine sched_fork [15] (by kernel_rfl) rfl ?_
      intro i hi
      simp only [List.mem_cons, List.not_mem_nil, or_false] at hi
      subst hi
      refine ⟨_, rfl, by rfl, oper_append rfl rfl rfl hr ⟨hbl, ?_⟩⟩
      clear hr hB hbl HG
      refine sched_fork [16] (by kernel_rfl) rfl ?_
      intro i hi
      simp only [List.mem_cons, List.not_mem_nil, or_false] at hi
      subst hi
      refine ⟨_, rfl, by rfl, oper_call (f := 9) (args := #[.slice (some ⟨tb, 0, none⟩) 32 32, .slice a2 33 c2]) (by go_simp) ?_⟩
      refine (mac_any (some ⟨tb, 0, none⟩) 32 32 T a2 33 c2 (d1 ++ [2]) V28 (HC3.out.t.byt 32 hTl) (fun e => by cases e) (by omega) (by omega) (by unfold maxLen; omega) HB.out hcn (by omega) hc hcm (HTab.out.later HC3.out.bel)).mono ?_
      rintro e V29 ⟨rfl, hb⟩
      refine ⟨_, rfl, hb.mono HC3.out.sz, ?_⟩
      rw [HM2.out]
      replace HC3 := hid_up (HC3.out.step (hb.mono HC3.out.sz))
      clear hb HB hc hcm hcn
      refine sched_mid (by kernel_rfl) (fun _ => Below.refl _ _) (fun _ _ _ h k => Below.trans h k) (by kernel_rfl) [(17, true), (18, true), (19, true), (20, true), (21, true), (23, true)] 8 ((Array.replicate 31 false).mapIdx fun i _ => i < 22 || i == 23) rfl (by kernel_rfl) ?_
      intro KM hKM
      go_simp
      iterate 3 (refine sched_take rfl (by rfl) (v := ?_) ?_ ?_; rotate_left; (intro w' hw'; clear hw'; have q1 := arr_eq w' 25 32 d2 d2 l2 l2 Tryd.underlying25; rw [decide_eq_true rfl] at q1; go_simp; with_reducible rfl); go_simp)
      refine sched_take rfl (by rfl) (v := .agg (d3.map bv).toArray) (fun w' hw' => exec_load_row 25 _ rfl (kx + 1 + 1) rfl 25 _ (0, 0) _ (HC3.out.step hw').c Tryd.underlying25 rfl I3.out) ?_
      go_simp
      iterate 2 (refine sched_take rfl (by rfl) (v := ?_) ?_ ?_; rotate_left; (intro w' hw'; clear hw'; go_simp; with_reducible rfl); go_simp)
      refine hKM.out _ _ ?_
      clear hKM
      have HG : Hid (Gm B d2 3 none none none V29) := Gm.new B d2 3 V29 HC3.out.sz
      refine sched_fork [22, 25] (by kernel_rfl) rfl ?_
      intro i hi
      simp only [List.mem_cons, List.not_mem_nil, or_false] at hi
      rcases hi with rfl | rfl
      · refine ⟨_, rfl, by rfl, oper_val (v := .slice (some ⟨V29.heap.size, 0, none⟩) 0 0) (w' := V29.alloc (.cells #[] 5)) (by go_simp; try rfl) ⟨(Below.refl _ _).alloc HG.out.sz _, ?_⟩⟩
        replace HG := hid_up HG.out.one
        replace HC3 := hid_up (HC3.out.step ((Below.refl B V29).alloc HC3.out.sz (.cells #[] 5)))
        generalize V29.alloc (.cells #[] 5) = V30 at HG HC3 ⊢
        generalize V29.heap.size = g3a at HG ⊢
        refine sched_fork [24, 25] (by kernel_rfl) rfl ?_
        intro i hi
        simp only [List.mem_cons, List.not_mem_nil, or_false] at hi
        rcases hi with rfl | rfl
        · obtain ⟨v3, V31, hr, hG', hbl⟩ := HG.out.two (HC3.out.b.byt 32 l2)
          refine ⟨_, rfl, by rfl, oper_append rfl rfl rfl hr ⟨hbl, ?_⟩⟩
          replace HG := hid_up hG'
          replace HC3 := hid_up (HC3.out.step hbl)
          clear hr hG' hbl
          refine sched_fork [25] (by kernel_rfl) rfl ?_
          intro i hi
          simp only [List.mem_cons, List.not_mem_nil, or_false] at hi
          subst hi
          refine ⟨_, rfl, by rfl, oper_val (v := .slice (some ⟨V31.heap.size, 0, none⟩) 1 1) (w' := V31.alloc (.cells #[bv 3] 5)) (by go_simp; try rfl) ⟨(Below.refl _ _).alloc HG.out.sz _, ?_⟩⟩
          replace HG := hid_up HG.out.three
          replace HC3 := hid_up (HC3.out.step ((Below.refl B V31).alloc HC3.out.sz (.cells #[bv 3] 5)))
          generalize V31.alloc (.cells #[bv 3] 5) = V32 at HG HC3 ⊢
          generalize V31.heap.size = g3c at HG ⊢
          obtain ⟨a3, c3, V33, hr, hB, hc, hcm, hcn, hbl⟩ := HG.out.end_
          have HB : Hid (Byt V33 a3 33 (d2 ++ [3])) := hB
          replace HC3 := hid_up (HC3.out.step hbl)
          refine sched_end (G := Below B) (fun _ => Below.refl _ _) (fun _ _ _ h k => Below.trans h k) (by kernel_rfl) [(26, false), (27, false), (28, true), (29, true), (30, true)] rfl (by kernel_rfl) ?_
          intro KE hKE
          go_simp
          refine sched_append rfl (by rfl) rfl rfl rfl hr hbl ?_
          clear hr hB hbl HG
          go_simp
          refine sched_call (f := 9) (args := #[.slice (some ⟨tb, 0, none⟩) 32 32, .slice a3 33 c3]) rfl (by rfl) (by go_simp) ?_
          refine (mac_any (some ⟨tb, 0, none⟩) 32 32 T a3 33 c3 (d2 ++ [3]) V33 (HC3.out.t.byt 32 hTl) (fun e => by cases e) (by omega) (by omega) (by unfold maxLen; omega) HB.out hcn (by omega) hc hcm (HTab.out.later HC3.out.bel)).mono ?_
          rintro e V34 ⟨rfl, hb⟩
          refine ⟨_, rfl, hb.mono HC3.out.sz, ?_⟩
          rw [HM3.out]
          replace HC3 := hid_up (HC3.out.step (hb.mono HC3.out.sz))
          clear hb HB hc hcm hcn
          go_simp
          iterate 3 (refine sched_take rfl (by rfl) (v := ?_) ?_ ?_; rotate_left; (intro w' hw'; clear hw'; have q1 := arr_eq w' 25 32 d3 d3 l3 l3 Tryd.underlying25; rw [decide_eq_true rfl] at q1; go_simp; with_reducible rfl); go_simp)
          refine sched_done hKE ?_
          go_wp2
          go_ret
          exact ⟨rfl, HC3.out.bel⟩
        · refine ⟨_, rfl, by rfl, oper_val (v := .slice (some ⟨V30.heap.size, 0, none⟩) 1 1) (w' := V30.alloc (.cells #[bv 3] 5)) (by go_simp; try rfl) ⟨(Below.refl _ _).alloc HG.out.sz _, ?_⟩⟩
          replace HG := hid_up HG.out.three
          replace HC3 := hid_up (HC3.out.step ((Below.refl B V30).alloc HC3.out.sz (.cells #[bv 3] 5)))
          generalize V30.alloc (.cells #[bv 3] 5) = V35 at HG HC3 ⊢
          generalize V30.heap.size = g3c at HG ⊢
          refine sched_fork [24] (by kernel_rfl) rfl ?_
          intro i hi
          simp only [List.mem_cons, List.not_mem_nil, or_false] at hi
          subst hi
          obtain ⟨v3, V36, hr, hG', hbl⟩ := HG.out.two (HC3.out.b.byt 32 l2)
          refine ⟨_, rfl, by rfl, oper_append rfl rfl rfl hr ⟨hbl, ?_⟩⟩
          replace HG := hid_up hG'
          replace HC3 := hid_up (HC3.out.step hbl)
          clear hr hG' hbl
          obtain ⟨a3, c3, V37, hr, hB, hc, hcm, hcn, hbl⟩ := HG.out.end_
          have HB : Hid (Byt V37 a3 33 (d2 ++ [3])) := hB
          replace HC3 := hid_up (HC3.out.step hbl)
          refine sched_end (G := Below B) (fun _ => Below.refl _ _) (fun _ _ _ h k => Below.trans h k) (by kernel_rfl) [(26, false), (27, false), (28, true), (29, true), (30, true)] rfl (by kernel_rfl) ?_
          intro KE hKE
          go_simp
          refine sched_append rfl (by rfl) rfl rfl rfl hr hbl ?_
          clear hr hB hbl HG
          go_simp
          refine sched_call (f := 9) (args := #[.slice (some ⟨tb, 0, none⟩) 32 32, .slice a3 33 c3]) rfl (by rfl) (by go_simp) ?_
          refine (mac_any (some ⟨tb, 0, none⟩) 32 32 T a3 33 c3 (d2 ++ [3]) V37 (HC3.out.t.byt 32 hTl) (fun e => by cases e) (by omega) (by omega) (by unfold maxLen; omega) HB.out hcn (by omega) hc hcm (HTab.out.later HC3.out.bel)).mono ?_
          rintro e V38 ⟨rfl, hb⟩
          refine ⟨_, rfl, hb.mono HC3.out.sz, ?_⟩
          rw [HM3.out]
          replace HC3 := hid_up (HC3.out.step (hb.mono HC3.out.sz))
          clear hb HB hc hcm hcn
          go_simp
          iterate 3 (refine sched_take rfl (by rfl) (v := ?_) ?_ ?_; rotate_left; (intro w' hw'; clear hw'; have q1 := arr_eq w' 25 32 d3 d3 l3 l3 Tryd.underlying25; rw [decide_eq_true rfl] at q1; go_simp; with_reducible rfl); go_simp)
          refine sched_done hKE ?_
          go_wp2
          go_ret
          exact ⟨rfl, HC3.out.bel⟩
      · refine ⟨_, rfl, by rfl, oper_val (v := .slice (some ⟨V29.heap.size, 0, none⟩) 1 1) (w' := V29.alloc (.cells #[bv 3] 5)) (by go_simp; try rfl) ⟨(Below.refl _ _).alloc HG.out.sz _, ?_⟩⟩
        replace HG := hid_up HG.out.three
        replace HC3 := hid_up (HC3.out.step ((Below.refl B V29).alloc HC3.out.sz (.cells #[bv 3] 5)))
        generalize V29.alloc (.cells #[bv 3] 5) = V39 at HG HC3 ⊢
        generalize V29.heap.size = g3c at HG ⊢
        refine sched_fork [22] (by kernel_rfl) rfl ?_
        intro i hi
        simp only [List.mem_cons, List.not_mem_nil, or_false] at hi
        subst hi
        refine ⟨_, rfl, by rfl, oper_val (v := .slice (some ⟨V39.heap.size, 0, none⟩) 0 0) (w' := V39.alloc (.cells #[] 5)) (by go_simp; try rfl) ⟨(Below.refl _ _).alloc HG.out.sz _, ?_⟩⟩
        replace HG := hid_up HG.out.one
        replace HC3 := hid_up (HC3.out.step ((Below.refl B V39).alloc HC3.out.sz (.cells #[] 5)))
        generalize V39.alloc (.cells #[] 5) = V40 at HG HC3 ⊢
        generalize V39.heap.size = g3a at HG ⊢
        refine sched_fork [24] (by kernel_rfl) rfl ?_
        intro i hi
        simp only [List.mem_cons, List.not_mem_nil, or_false] at hi
        subst hi
        obtain ⟨v3, V41, hr, hG', hbl⟩ := HG.out.two (HC3.out.b.byt 32 l2)
        refine ⟨_, rfl, by rfl, oper_append rfl rfl rfl hr ⟨hbl, ?_⟩⟩
        replace HG := hid_up hG'
        replace HC3 := hid_up (HC3.out.step hbl)
        clear hr hG' hbl
        obtain ⟨a3, c3, V42, hr, hB, hc, hcm, hcn, hbl⟩ := HG.out.end_
        have HB : Hid (Byt V42 a3 33 (d2 ++ [3])) := hB
        replace HC3 := hid_up (HC3.out.step hbl)
        refine sched_end (G := Below B) (fun _ => Below.refl _ _) (fun _ _ _ h k => Below.trans h k) (by kernel_rfl) [(26, false), (27, false), (28, true), (29, true), (30, true)] rfl (by kernel_rfl) ?_
        intro KE hKE
        go_simp
        refine sched_append rfl (by rfl) rfl rfl rfl hr hbl ?_
        clear hr hB hbl HG
        go_simp
        refine sched_call (f := 9) (args := #[.slice (some ⟨tb, 0, none⟩) 32 32, .slice a3 33 c3]) rfl (by rfl) (by go_simp) ?_
        refine (mac_any (some ⟨tb, 0, none⟩) 32 32 T a3 33 c3 (d2 ++ [3]) V42 (HC3.out.t.byt 32 hTl) (fun e => by cases e) (by omega) (by omega) (by unfold maxLen; omega) HB.out hcn (by omega) hc hcm (HTab.out.later HC3.out.bel)).mono ?_
        rintro e V43 ⟨rfl, hb⟩
        refine ⟨_, rfl, hb.mono HC3.out.sz, ?_⟩
        rw [HM3.out]
        replace HC3 := hid_up (HC3.out.step (hb.mono HC3.out.sz))
        clear hb HB hc hcm hcn
        go_simp
        iterate 3 (refine sched_take rfl (by rfl) (v := ?_) ?_ ?_; rotate_left; (intro w' hw'; clear hw'; have q1 := arr_eq w' 25 32 d3 d3 l3 l3 Tryd.underlying25; rw [decide_eq_true rfl] at q1; go_simp; with_reducible rfl); go_simp)
        refine sched_done hKE ?_
        go_wp2
        go_ret
        exact ⟨rfl, HC3.out.bel⟩
  · refine ⟨_, rfl, by rfl, oper_val (v := .slice (some ⟨w6.heap.size, 0, none⟩) 1 1) (w' := w6.alloc (.cells #[bv 2] 5)) (by go_simp; try rfl) ⟨(Below.refl _ _).alloc HG.out.sz _, ?_⟩⟩
    replace HG := hid_up HG.out.three
    replace HC3 := hid_up (HC3.out.step ((Below.refl B w6).alloc HC3.out.sz (.cells #[bv 2] 5)))
    generalize w6.alloc (.cells #[bv 2] 5) = V44 at HG HC3 ⊢
    generalize w6.heap.size = g2c at HG ⊢
    refine sched_fork [11] (by kernel_rfl) rfl ?_
    intro i hi
    simp only [List.mem_cons, List.not_mem_nil, or_false] at hi
    subst hi
    refine ⟨_, rfl, by rfl, oper_val (v := .slice (some ⟨V44.heap.size, 0, none⟩) 0 0) (w' := V44.alloc (.cells #[] 5)) (by go_simp; try rfl) ⟨(Below.refl _ _).alloc HG.out.sz _, ?_⟩⟩
    replace HG := hid_up HG.out.one
    replace HC3 := hid_up (HC3.out.step ((Below.refl B V44).alloc HC3.out.sz (.cells #[] 5)))
    generalize V44.alloc (.cells #[] 5) = V45 at HG HC3 ⊢
    generalize V44.heap.size = g2a at HG ⊢
    refine sched_fork [13] (by kernel_rfl) rfl ?_
    intro i hi
    simp only [List.mem_cons, List.not_mem_nil, or_false] at hi
    subst hi
    obtain ⟨v2, V46, hr, hG', hbl⟩ := HG.out.two (HC3.out.a.byt 32 l1)
    refine ⟨_, rfl, by rfl, oper_append rfl rfl rfl hr ⟨hbl, ?_⟩⟩
    replace HG := hid_up hG'
    replace HC3 := hid_up (HC3.out.step hbl)
    clear hr hG' hbl
    obtain ⟨a2, c2, V47, hr, hB, hc, hcm, hcn, hbl⟩ := HG.out.end_
    have HB : Hid (Byt V47 a2 33 (d1 ++ [2])) := hB
    replace HC3 := hid_up (HC3.out.step hbl)
    refine sched_fork [15] (by kernel_rfl) rfl ?_
    intro i hi
    simp only [List.mem_cons, List.not_mem_nil, or_false] at hi
    subst hi
    refine ⟨_, rfl, by rfl, oper_append rfl rfl rfl hr ⟨hbl, ?_⟩⟩
    clear hr hB hbl HG
    refine sched_fork [16] (by kernel_rfl) rfl ?_
    intro i hi
    simp only [List.mem_cons, List.not_mem_nil, or_false] at hi
    subst hi
    refine ⟨_, rfl, by rfl, oper_call (f := 9) (args := #[.slice (some ⟨tb, 0, none⟩) 32 32, .slice a2 33 c2]) (by go_simp) ?_⟩
    refine (mac_any (some ⟨tb, 0, none⟩) 32 32 T a2 33 c2 (d1 ++ [2]) V47 (HC3.out.t.byt 32 hTl) (fun e => by cases e) (by omega) (by omega) (by unfold maxLen; omega) HB.out hcn (by omega) hc hcm (HTab.out.later HC3.out.bel)).mono ?_
    rintro e V48 ⟨rfl, hb⟩
    refine ⟨_, rfl, hb.mono HC3.out.sz, ?_⟩
    rw [HM2.out]
    replace HC3 := hid_up (HC3.out.step (hb.mono HC3.out.sz))
    clear hb HB hc hcm hcn
    refine sched_mid (by kernel_rfl) (fun _ => Below.refl _ _) (fun _ _ _ h k => Below.trans h k) (by kernel_rfl) [(17, true), (18, true), (19, true), (20, true), (21, true), (23, true)] 8 ((Array.replicate 31 false).mapIdx fun i _ => i < 22 || i == 23) rfl (by kernel_rfl) ?_
    intro KM hKM
    go_simp
    iterate 3 (refine sched_take rfl (by rfl) (v := ?_) ?_ ?_; rotate_left; (intro w' hw'; clear hw'; have q1 := arr_eq w' 25 32 d2 d2 l2 l2 Tryd.underlying25; rw [decide_eq_true rfl] at q1; go_simp; with_reducible rfl); go_simp)
    refine sched_take rfl (by rfl) (v := .agg (d3.map bv).toArray) (fun w' hw' => exec_load_row 25 _ rfl (kx + 1 + 1) rfl 25 _ (0, 0) _ (HC3.out.step hw').c Tryd.underlying25 rfl I3.out) ?_
    go_simp
    iterate 2 (refine sched_take rfl (by rfl) (v := ?_) ?_ ?_; rotate_left; (intro w' hw'; clear hw'; go_simp; with_reducible rfl); go_simp)
    refine hKM.out _ _ ?_
    clear hKM
    have HG : Hid (Gm B d2 3 none none none V48) := Gm.new B d2 3 V48 HC3.out.sz
    refine sched_fork [22, 25] (by kernel_rfl) rfl ?_
    intro i hi
    simp only [List.mem_cons, List.not_mem_nil, or_false] at hi
    rcases hi with rfl | rfl
    · refine ⟨_, rfl, by rfl, oper_val (v := .slice (some ⟨V48.heap.size, 0, none⟩) 0 0) (w' := V48.alloc (.cells #[] 5)) (by go_simp; try rfl) ⟨(Below.refl _ _).alloc HG.out.sz _, ?_⟩⟩
      replace HG := hid_up HG.out.one
      replace HC3 := hid_up (HC3.out.step ((Below.refl B V48).alloc HC3.out.sz (.cells #[] 5)))
      generalize V48.alloc (.cells #[] 5) = V49 at HG HC3 ⊢
      generalize V48.heap.size = g3a at HG ⊢
      refine sched_fork [24, 25] (by kernel_rfl) rfl ?_
      intro i hi
      simp only [List.mem_cons, List.not_mem_nil, or_false] at hi
      rcases hi with rfl | rfl
      · obtain ⟨v3, V50, hr, hG', hbl⟩ := HG.out.two (HC3.out.b.byt 32 l2)
        refine ⟨_, rfl, by rfl, oper_append rfl rfl rfl hr ⟨hbl, ?_⟩⟩
        replace HG := hid_up hG'
        replace HC3 := hid_up (HC3.out.step hbl)
        clear hr hG' hbl
        refine sched_fork [25] (by kernel_rfl) rfl ?_
        intro i hi
        simp only [List.mem_cons, List.not_mem_nil, or_false] at hi
        subst hi
        refine ⟨_, rfl, by rfl, oper_val (v := .slice (some ⟨V50.heap.size, 0, none⟩) 1 1) (w' := V50.alloc (.cells #[bv 3] 5)) (by go_simp; try rfl) ⟨(Below.refl _ _).alloc HG.out.sz _, ?_⟩⟩
        replace HG := hid_up HG.out.three
        replace HC3 := hid_up (HC3.out.step ((Below.refl B V50).alloc HC3.out.sz (.cells #[bv 3] 5)))
        generalize V50.alloc (.cells #[bv 3] 5) = V51 at HG HC3 ⊢
        generalize V50.heap.size = g3c at HG ⊢
        obtain ⟨a3, c3, V52, hr, hB, hc, hcm, hcn, hbl⟩ := HG.out.end_
        have HB : Hid (Byt V52 a3 33 (d2 ++ [3])) := hB
        replace HC3 := hid_up (HC3.out.step hbl)
        refine sched_end (G := Below B) (fun _ => Below.refl _ _) (fun _ _ _ h k => Below.trans h k) (by kernel_rfl) [(26, false), (27, false), (28, true), (29, true), (30, true)] rfl (by kernel_rfl) ?_
        intro KE hKE
        go_simp
        refine sched_append rfl (by rfl) rfl rfl rfl hr hbl ?_
        clear hr hB hbl HG
        go_simp
        refine sched_call (f := 9) (args := #[.slice (some ⟨tb, 0, none⟩) 32 32, .slice a3 33 c3]) rfl (by rfl) (by go_simp) ?_
        refine (mac_any (some ⟨tb, 0, none⟩) 32 32 T a3 33 c3 (d2 ++ [3]) V52 (HC3.out.t.byt 32 hTl) (fun e => by cases e) (by omega) (by omega) (by unfold maxLen; omega) HB.out hcn (by omega) hc hcm (HTab.out.later HC3.out.bel)).mono ?_
        rintro e V53 ⟨rfl, hb⟩
        refine ⟨_, rfl, hb.mono HC3.out.sz, ?_⟩
        rw [HM3.out]
        replace HC3 := hid_up (HC3.out.step (hb.mono HC3.out.sz))
        clear hb HB hc hcm hcn
        go_simp
        iterate 3 (refine sched_take rfl (by rfl) (v := ?_) ?_ ?_; rotate_left; (intro w' hw'; clear hw'; have q1 := arr_eq w' 25 32 d3 d3 l3 l3 Tryd.underlying25; rw [decide_eq_true rfl] at q1; go_simp; with_reducible rfl); go_simp)
        refine sched_done hKE ?_
        go_wp2
        go_ret
        exact ⟨rfl, HC3.out.bel⟩
      · refine ⟨_, rfl, by rfl, oper_val (v := .slice (some ⟨V49.heap.size, 0, none⟩) 1 1) (w' := V49.alloc (.cells #[bv 3] 5)) (by go_simp; try rfl) ⟨(Below.refl _ _).alloc HG.out.sz _, ?_⟩⟩
        replace HG := hid_up HG.out.three
        replace HC3 := hid_up (HC3.out.step ((Below.refl B V49).alloc HC3.out.sz (.cells #[bv 3] 5)))
        generalize V49.alloc (.cells #[bv 3] 5) = V54 at HG HC3 ⊢
        generalize V49.heap.size = g3c at HG ⊢
        refine sched_fork [24] (by kernel_rfl) rfl ?_
        intro i hi
        simp only [List.mem_cons, List.not_mem_nil, or_false] at hi
        subst hi
        obtain ⟨v3, V55, hr, hG', hbl⟩ := HG.out.two (HC3.out.b.byt 32 l2)
        refine ⟨_, rfl, by rfl, oper_append rfl rfl rfl hr ⟨hbl, ?_⟩⟩
        replace HG := hid_up hG'
        replace HC3 := hid_up (HC3.out.step hbl)
        clear hr hG' hbl
        obtain ⟨a3, c3, V56, hr, hB, hc, hcm, hcn, hbl⟩ := HG.out.end_
        have HB : Hid (Byt V56 a3 33 (d2 ++ [3])) := hB
        replace HC3 := hid_up (HC3.out.step hbl)
        refine sched_end (G := Below B) (fun _ => Below.refl _ _) (fun _ _ _ h k => Below.trans h k) (by kernel_rfl) [(26, false), (27, false), (28, true), (29, true), (30, true)] rfl (by kernel_rfl) ?_
        intro KE hKE
        go_simp
        refine sched_append rfl (by rfl) rfl rfl rfl hr hbl ?_
        clear hr hB hbl HG
        go_simp
        refine sched_call (f := 9) (args := #[.slice (some ⟨tb, 0, none⟩) 32 32, .slice a3 33 c3]) rfl (by rfl) (by go_simp) ?_
        refine (mac_any (some ⟨tb, 0, none⟩) 32 32 T a3 33 c3 (d2 ++ [3]) V56 (HC3.out.t.byt 32 hTl) (fun e => by cases e) (by omega) (by omega) (by unfold maxLen; omega) HB.out hcn (by omega) hc hcm (HTab.out.later HC3.out.bel)).mono ?_
        rintro e V57 ⟨rfl, hb⟩
        refine ⟨_, rfl, hb.mono HC3.out.sz, ?_⟩
        rw [HM3.out]
        replace HC3 := hid_up (HC3.out.step (hb.mono HC3.out.sz))
        clear hb HB hc hcm hcn
        go_simp
        iterate 3 (refine sched_take rfl (by rfl) (v := ?_) ?_ ?_; rotate_left; (intro w' hw'; clear hw'; have q1 := arr_eq w' 25 32 d3 d3 l3 l3 Tryd.underlying25; rw [decide_eq_true rfl] at q1; go_simp; with_reducible rfl); go_simp)
        refine sched_done hKE ?_
        go_wp2
        go_ret
        exact ⟨rfl, HC3.out.bel⟩
    · refine ⟨_, rfl, by rfl, oper_val (v := .slice (some ⟨V48.heap.size, 0, none⟩) 1 1) (w' := V48.alloc (.cells #[bv 3] 5)) (by go_simp; try rfl) ⟨(Below.refl _ _).alloc HG.out.sz _, ?_⟩⟩
      replace HG := hid_up HG.out.three
      replace HC3 := hid_up (HC3.out.step ((Below.refl B V48).alloc HC3.out.sz (.cells #[bv 3] 5)))
      generalize V48.alloc (.cells #[bv 3] 5) = V58 at HG HC3 ⊢
      generalize V48.heap.size = g3c at HG ⊢
      refine sched_fork [22] (by kernel_rfl) rfl ?_
      intro i hi
      simp only [List.mem_cons, List.not_mem_nil, or_false] at hi
      subst hi
      refine ⟨_, rfl, by rfl, oper_val (v := .slice (some ⟨V58.heap.size, 0, none⟩) 0 0) (w' := V58.alloc (.cells #[] 5)) (by go_simp; try rfl) ⟨(Below.refl _ _).alloc HG.out.sz _, ?_⟩⟩
      replace HG := hid_up HG.out.one
      replace HC3 := hid_up (HC3.out.step ((Below.refl B V58).alloc HC3.out.sz (.cells #[] 5)))
      generalize V58.alloc (.cells #[] 5) = V59 at HG HC3 ⊢
      generalize V58.heap.size = g3a at HG ⊢
      refine sched_fork [24] (by kernel_rfl) rfl ?_
      intro i hi
      simp only [List.mem_cons, List.not_mem_nil, or_false] at hi
      subst hi
      obtain ⟨v3, V60, hr, hG', hbl⟩ := HG.out.two (HC3.out.b.byt 32 l2)
      refine ⟨_, rfl, by rfl, oper_append rfl rfl rfl hr ⟨hbl, ?_⟩⟩
      replace HG := hid_up hG'
      replace HC3 := hid_up (HC3.out.step hbl)
      clear hr hG' hbl
      obtain ⟨a3, c3, V61, hr, hB, hc, hcm, hcn, hbl⟩ := HG.out.end_
      have HB : Hid (Byt V61 a3 33 (d2 ++ [3])) := hB
      replace HC3 := hid_up (HC3.out.step hbl)
      refine sched_end (G := Below B) (fun _ => Below.refl _ _) (fun _ _ _ h k => Below.trans h k) (by kernel_rfl) [(26, false), (27, false), (28, true), (29, true), (30, true)] rfl (by kernel_rfl) ?_
      intro KE hKE
      go_simp
      refine sched_append rfl (by rfl) rfl rfl rfl hr hbl ?_
      clear hr hB hbl HG
      go_simp
      refine sched_call (f := 9) (args := #[.slice (some ⟨tb, 0, none⟩) 32 32, .slice a3 33 c3]) rfl (by rfl) (by go_simp) ?_
      refine (mac_any (some ⟨tb, 0, none⟩) 32 32 T a3 33 c3 (d2 ++ [3]) V61 (HC3.out.t.byt 32 hTl) (fun e => by cases e) (by omega) (by omega) (by unfold maxLen; omega) HB.out hcn (by omega) hc hcm (HTab.out.later HC3.out.bel)).mono ?_
      rintro e V62 ⟨rfl, hb⟩
      refine ⟨_, rfl, hb.mono HC3.out.sz, ?_⟩
      rw [HM3.out]
      replace HC3 := hid_up (HC3.out.step (hb.mono HC3.out.sz))
      clear hb HB hc hcm hcn
      go_simp
      iterate 3 (refine sched_take rfl (by rfl) (v := ?_) ?_ ?_; rotate_left; (intro w' hw'; clear hw'; have q1 := arr_eq w' 25 32 d3 d3 l3 l3 Tryd.underlying25; rw [decide_eq_true rfl] at q1; go_simp; with_reducible rfl); go_simp)
      refine sched_done hKE ?_
      go_wp2
      go_ret
      exact ⟨rfl, HC3.out.bel⟩
end Go.Proofs.YthjkjfoelekeeaaDoor.kdfChains
