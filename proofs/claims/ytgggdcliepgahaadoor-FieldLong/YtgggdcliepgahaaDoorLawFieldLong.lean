/- FieldLong. For every key and every row of steps, without a condition. -/
import Derived.Test.YtgggdcliepgahaaDoorLawFieldTells
namespace Go.Proofs.YtgggdcliepgahaaDoor.fieldLong
open Go.ChangeShapes Go.WideShapes Go.ChangeAt Go.RowKit
set_option linter.unusedVariables false
open fieldTells

theorem Dig.put {W : World} {a : Option Addr} {n cap x g : Nat} {cs : List Value} (h : Dig W a n cap x) (hc : Cel W g cs) (hk : ∀ v ∈ cs, ∀ d, v ≠ .int .i64 d) (cs' : Array Value) : Dig (W.setRow g cs') a n cap x := by
  refine ⟨⟨h.ints.1, ?_⟩, h.cap⟩
  rcases h.ints.2 with h0 | ⟨b, off, e, hcell⟩
  · exact .inl h0
  · refine .inr ⟨b, off, e, fun i hi => ?_⟩
    have h1 := hcell i hi
    have hne : b ≠ g := by
      intro hbg
      rw [hbg, cell_of_row W g (off + i) _ _ (0, 0) hc] at h1
      have h2 : cs[off + i]? = some (.int .i64 (atD (dig x) i : Int)) := by simpa using h1
      exact hk _ (List.mem_of_getElem? h2) _ rfl
    rw [World.cell?_of_block (w := W) (a := ⟨b, off + i, none⟩) (setRow_other W g b cs' hne)]
    exact h1
/-- The first element, the one that is reckoned, and the document's two. -/
structure Lg (w : World) (g6 g7 : Nat) (c1 : List Value) (ap : Option Addr) (np qp x : Nat) (a : Option Addr) (len : Nat) (l : List UInt8) (cx : List Value) (ay : Option Addr) (ny qy v u : Nat) (W : World) : Prop where
  first : Cel W g6 c1
  cur : Cel W g7 cx
  el : Elm cx v
  p : Dig W ap np qp x
  y : Dig W ay ny qy u
  b : Byt W a len l
  lb : 0 < len → ∀ k o f, a = some ⟨k, o, f⟩ → k < w.heap.size
  ne : g6 ≠ g7
  le : w.heap.size ≤ g7
  bel : Below w.heap.size w W
theorem Lg.later {w W : World} {g6 g7 : Nat} {c1 : List Value} {ap : Option Addr} {np qp x : Nat} {a : Option Addr} {len : Nat} {l : List UInt8} {cx : List Value} {ay : Option Addr} {ny qy v u : Nat} {W' : World} (t : Lg w g6 g7 c1 ap np qp x a len l cx ay ny qy v u W) (hb : Below W.heap.size W W') : Lg w g6 g7 c1 ap np qp x a len l cx ay ny qy v u W' :=
  ⟨t.first.later hb, t.cur.later hb, t.el, t.p.later hb, t.y.later hb, t.b.later hb, t.lb, t.ne, t.le, t.bel.trans (hb.mono t.bel.size)⟩
theorem Lg.put {w W : World} {g6 g7 : Nat} {c1 : List Value} {ap : Option Addr} {np qp x : Nat} {a : Option Addr} {len : Nat} {l : List UInt8} {cx : List Value} {ay : Option Addr} {ny qy v u : Nat} (t : Lg w g6 g7 c1 ap np qp x a len l cx ay ny qy v u W) {d : List Value} {v' : Nat} (hd : Elm d v') : Lg w g6 g7 c1 ap np qp x a len l d ay ny qy v' u (W.setRow g7 d.toArray) := by
  refine ⟨t.first.put_other t.ne _, setRow_heap W g7 _ _ _ _ t.cur, hd, Dig.put t.p t.cur t.el.kind _, Dig.put t.y t.cur t.el.kind _, ?_, t.lb, t.ne, t.le, below_setRow t.bel t.le _⟩
  rcases t.b.2 with h0 | ⟨b, off, e, hc⟩
  · exact ⟨t.b.1, .inl h0⟩
  · by_cases h0 : len = 0
    · exact ⟨t.b.1, .inl h0⟩
    · have hbl := t.lb (by omega) b off none e
      have hle := t.le
      have hb := t.b
      rw [e] at hb ⊢
      exact hb.but (But.setRow W g7 _) (by omega)
theorem Lg.told {w W : World} {g6 g7 : Nat} {c1 : List Value} {ap : Option Addr} {np qp x : Nat} {a : Option Addr} {len : Nat} {l : List UInt8} {cx : List Value} {ay : Option Addr} {ny qy v u : Nat} {W' : World} {ay' : Option Addr} {ny' qy' u' : Nat} (t : Lg w g6 g7 c1 ap np qp x a len l cx ay ny qy v u W) (hb : Below W.heap.size W W') (hy : Dig W' ay' ny' qy' u') : Lg w g6 g7 c1 ap np qp x a len l cx ay' ny' qy' v u' W' :=
  let s := t.later hb
  ⟨s.first, s.cur, s.el, s.p, hy, s.b, s.lb, s.ne, s.le, s.bel⟩

set_option maxHeartbeats 8000000 in
set_option maxRecDepth 100000 in
theorem walk (l0 : List UInt8) (a : Option Addr) (len cap : Nat) (z1 : List Int) (w : World) (w0 : l0.length = 32) (w1 : IsRow .u8 w a len cap z1) (htab : FTab w) :
    Calls Tryd.prog 4 #[.agg (l0.map bv).toArray, .slice a len cap] w fun e w' => e = .returned (.bool true) ∧ Below w.heap.size w w' := by
  have HTab : Hid (FTab w) := htab
  clear htab
  have hI : Hid (∀ l : List UInt8, l.length = 32 → (Tryd.prog.info? 23).map (·.size) = some (l.map bv).toArray.size) := fun l hl => info_size (n := 32) (by kernel_rfl) l hl
  obtain ⟨l, m, hm, _, _, _, _, hB⟩ := cut_row w1 len
  have hml : m = len := by
    rw [if_neg (by omega)] at hm
    omega
  rw [hml] at hB
  clear hm hml w1
  have HLB : Hid (0 < len → ∀ k o f, a = some ⟨k, o, f⟩ → k < w.heap.size) := fun h0 k o f ea => by
    rcases hB.2 with h | ⟨b, off, e, hc⟩
    · omega
    · rw [e] at ea
      cases ea
      exact World.block_lt_of_cell? w _ (hc 0 h0)
  have hbl := hB.1
  have HBy : Hid (Byt w a len l) := hB
  clear hB
  go_enter Tryd.func4, Tryd.ntmps4
  go_wp2_with fail
  refine (fshown_any _).mono ?_
  rintro e V0 ⟨rfl, hb⟩
  obtain ⟨hk0, hbw⟩ := keys1 w l0
  have HK0 : Hid (Arr V0 w.heap.size 23 l0) := hk0.later hb
  have HW : Hid (Below w.heap.size w V0) := hbw.trans (hb.mono hbw.size)
  clear hb hbw hk0
  go_wp2_with (first | refine wpList_load_met (by rfl) 23 _ rfl w.heap.size rfl 23 _ (0, 0) _ HK0.out Tryd.underlying23 rfl (hI.out l0 w0) ?_ | fail)
  refine (ffrom_any l0 V0 w0).mono ?_
  rintro e V1 ⟨c1, rfl, he, hb⟩
  obtain ⟨x, hx⟩ : ∃ x, leN l0 % 2 ^ 255 % P255 = x := ⟨_, rfl⟩
  rw [hx] at he
  have HX : Hid (leN l0 % 2 ^ 255 % P255 = x) := hx
  have HE1 : Hid (Elm c1 x) := he
  have hxl := he.lt
  have hlen1 := he.len
  have hst := elm_store V1 he
  have hC := Cel.new V1 c1
  have hbW : Below V0.heap.size V0 (V1.alloc (.cells c1.toArray 28)) := hb.alloc hb.size _
  obtain ⟨W1, hW⟩ : ∃ W, V1.alloc (.cells c1.toArray 28) = W := ⟨_, rfl⟩
  rw [hW] at hst hC hbW
  have hs1 : V1.heap.size < W1.heap.size := hC.lt
  have hst2 := elm_store W1 he
  have hC2 := Cel.new W1 c1
  have hbW2 : Below W1.heap.size W1 (W1.alloc (.cells c1.toArray 28)) := (Below.refl _ _).alloc (Nat.le_refl _) _
  obtain ⟨W2, hW2⟩ : ∃ W, W1.alloc (.cells c1.toArray 28) = W := ⟨_, rfl⟩
  rw [hW2] at hst2 hC2 hbW2
  have HC1 : Hid (Cel W1 V1.heap.size c1) := hC
  replace HK0 := hidup ((HK0.out.later hbW).later hbW2)
  replace HW := hidup ((HW.out.trans (hbW.mono HW.out.size)).trans (hbW2.mono (HW.out.trans (hbW.mono HW.out.size)).size))
  have HC1' : Hid (Cel W2 V1.heap.size c1) := hC.later hbW2
  have HC2 : Hid (Cel W2 W1.heap.size c1) := hC2
  have Hle : Hid (w.heap.size ≤ W1.heap.size ∧ V1.heap.size ≠ W1.heap.size) := by
    have h8 := HW.out.size
    have h9 : W2.heap.size = W1.heap.size + 1 := by rw [← hW2]; simp
    have h7 := HK0.out.lt
    exact ⟨by omega, by omega⟩
  clear he hb hbW hbW2 hC hC2 hW hW2 hx hs1
  go_wp2_with (first | refine wpList_load_met (by rfl) 28 _ rfl V1.heap.size rfl 28 _ (0, 0) _ HC1.out Tryd.underlying28 rfl (elm_info HE1.out) ?_ | fail)
  clear hst hst2 HC1
  generalize V1.heap.size = g6 at *
  generalize W1.heap.size = g7 at *
  refine (refFfrom_any (some ⟨w.heap.size, 0, none⟩) 32 l0 W2 (HK0.out.byt 32 w0)).mono ?_
  rintro e V3 ⟨ap, np, qp, rfl, hb, hd⟩
  rw [HX.out] at hd
  have HL0 : Hid (Lg w g6 g7 c1 ap np qp x a len l c1 ap np qp x x V3) := ⟨HC1'.out.later hb, HC2.out.later hb, HE1.out, hd, hd, HBy.out.later (HW.out.trans (hb.mono HW.out.size)), HLB.out, Hle.out.2, Hle.out.1, HW.out.trans (hb.mono HW.out.size)⟩
  clear hd hb HK0 HW HC1' HC2 Hle HBy HLB HX
  go_wp2
  go_loopw [9, 10] (fun y i wr => ∃ (k v : Nat) (cx : List Value) (ay : Option Addr) (ny qy : Nat), k ≤ 60 ∧ i = .int .i64 k ∧ y = .slice ay ny qy ∧ Hid (Lg w g6 g7 c1 ap np qp x a len l cx ay ny qy v v wr)) (fun _ i _ => 60 - (intOf i).toNat)
  case atStart => exact ⟨0, x, c1, ap, np, qp, by omega, rfl, rfl, HL0⟩
  case round =>
    clear HL0
    obtain ⟨k, v, cx, ay, ny, qy, hk, rfl, rfl, hL⟩ := hrel
    have hvl := hL.out.el.lt
    by_cases hkl : k < len
    · have hki : (k : Int) < (len : Int) := by omega
      by_cases hk6 : k < 60
      · have hk6i : (k : Int) < 60 := by omega
        obtain ⟨b, off, rfl, hcell⟩ := hL.out.b.at_ k hkl
        obtain ⟨t, ht⟩ : ∃ t, (at8 l k).toNat = t := ⟨_, rfl⟩
        rw [ht] at hcell
        clear ht
        have hr6 : t % 6 < 6 := Nat.mod_lt _ (by decide)
        have hmod : (t : Int).tmod 6 = ((t % 6 : Nat) : Int) := by rw [Int.tmod_eq_emod_of_nonneg (by omega)]; omega
        obtain ⟨r, hr⟩ : ∃ r, t % 6 = r := ⟨_, rfl⟩
        rw [hr] at hmod hr6
        clear hr
        have hcases : r = 0 ∨ r = 1 ∨ r = 2 ∨ r = 3 ∨ r = 4 ∨ r = 5 := by omega
        clear hr6
        rcases hcases with rfl | rfl | rfl | rfl | rfl | rfl
        · go_wp2_with (first | refine wpList_load_met (by rfl) 28 _ rfl g6 rfl 28 _ (0, 0) _ hL.out.first Tryd.underlying28 rfl (elm_info HE1.out) ?_ | refine wpList_load_met (by rfl) 28 _ rfl g7 rfl 28 _ (0, 0) _ hL.out.cur Tryd.underlying28 rfl (elm_info hL.out.el) ?_ | fail)
          refine (fadd_any cx c1 v x wr hL.out.el HE1.out).mono ?_
          rintro e V ⟨d, rfl, he, hb⟩
          obtain ⟨s, hs⟩ : ∃ s, (v + x) % P255 = s := ⟨_, rfl⟩
          rw [hs] at he
          have HS : Hid ((v + x) % P255 = s) := hs
          have hlend := he.len
          have hL1 := hL.out.later hb
          have hst := store_row V g7 _ _ d hL1.cur (by rw [hlend]; simp [hL1.el.len]) he.one
          have HL1 : Hid (Lg w g6 g7 c1 ap np qp x (some ⟨b, off, none⟩) len l d ay ny qy s v (V.setRow g7 d.toArray)) := hL1.put he
          obtain ⟨X, hX⟩ : ∃ X, V.setRow g7 d.toArray = X := ⟨_, rfl⟩
          rw [hX] at hst HL1
          clear he hb hs hX hL1 hL
          go_wp2_with fail
          clear hst
          refine (refFadd_any ay ny qy v ap np qp x X HL1.out.y HL1.out.p (lt33 hvl) (lt33 hxl)).mono ?_
          rintro e Y0 ⟨ab0, nb0, qb0, rfl, hb, hd⟩
          rw [HS.out] at hd
          have HL3 : Hid (Lg w g6 g7 c1 ap np qp x (some ⟨b, off, none⟩) len l d ab0 nb0 qb0 s s Y0) := HL1.out.told hb hd
          clear hb hd HL1
          go_wp2
          exact ⟨⟨k + 1, s, d, ab0, nb0, qb0, by omega, by go_num, rfl, HL3⟩, by simp [intOf]; omega⟩
        · go_wp2_with (first | refine wpList_load_met (by rfl) 28 _ rfl g6 rfl 28 _ (0, 0) _ hL.out.first Tryd.underlying28 rfl (elm_info HE1.out) ?_ | refine wpList_load_met (by rfl) 28 _ rfl g7 rfl 28 _ (0, 0) _ hL.out.cur Tryd.underlying28 rfl (elm_info hL.out.el) ?_ | fail)
          refine (fsub_any cx c1 v x wr hL.out.el HE1.out (HTab.out.later hL.out.bel)).mono ?_
          rintro e V ⟨d, rfl, he, hb⟩
          obtain ⟨s, hs⟩ : ∃ s, (v + (P255 - x)) % P255 = s := ⟨_, rfl⟩
          rw [hs] at he
          have HS : Hid ((v + (P255 - x)) % P255 = s) := hs
          have hlend := he.len
          have hL1 := hL.out.later hb
          have hst := store_row V g7 _ _ d hL1.cur (by rw [hlend]; simp [hL1.el.len]) he.one
          have HL1 : Hid (Lg w g6 g7 c1 ap np qp x (some ⟨b, off, none⟩) len l d ay ny qy s v (V.setRow g7 d.toArray)) := hL1.put he
          obtain ⟨X, hX⟩ : ∃ X, V.setRow g7 d.toArray = X := ⟨_, rfl⟩
          rw [hX] at hst HL1
          clear he hb hs hX hL1 hL
          go_wp2_with fail
          clear hst
          refine (refFneg_any ap np qp x X HL1.out.p (Nat.le_of_lt hxl)).mono ?_
          rintro e Y0 ⟨ab0, nb0, qb0, rfl, hb, hd⟩
          have HM : Hid (Dig Y0 ab0 nb0 qb0 ((P255 - x) % P255)) := hd
          have HL2 := hidup (HL1.out.later hb)
          clear hb hd HL1
          go_wp2_with fail
          refine (refFadd_any ay ny qy v ab0 nb0 qb0 ((P255 - x) % P255) Y0 HL2.out.y HM.out (lt33 hvl) (mod_small33 _)).mono ?_
          rintro e Y1 ⟨ab1, nb1, qb1, rfl, hb, hd⟩
          rw [Nat.add_mod_mod, HS.out] at hd
          have HL3 : Hid (Lg w g6 g7 c1 ap np qp x (some ⟨b, off, none⟩) len l d ab1 nb1 qb1 s s Y1) := HL2.out.told hb hd
          clear hb hd HL2
          go_wp2
          exact ⟨⟨k + 1, s, d, ab1, nb1, qb1, by omega, by go_num, rfl, HL3⟩, by simp [intOf]; omega⟩
        · go_wp2_with (first | refine wpList_load_met (by rfl) 28 _ rfl g6 rfl 28 _ (0, 0) _ hL.out.first Tryd.underlying28 rfl (elm_info HE1.out) ?_ | refine wpList_load_met (by rfl) 28 _ rfl g7 rfl 28 _ (0, 0) _ hL.out.cur Tryd.underlying28 rfl (elm_info hL.out.el) ?_ | fail)
          refine (fmul_any cx c1 v x wr hL.out.el HE1.out).mono ?_
          rintro e V ⟨d, rfl, he, hb⟩
          obtain ⟨s, hs⟩ : ∃ s, v * x % P255 = s := ⟨_, rfl⟩
          rw [hs] at he
          have HS : Hid (v * x % P255 = s) := hs
          have hlend := he.len
          have hL1 := hL.out.later hb
          have hst := store_row V g7 _ _ d hL1.cur (by rw [hlend]; simp [hL1.el.len]) he.one
          have HL1 : Hid (Lg w g6 g7 c1 ap np qp x (some ⟨b, off, none⟩) len l d ay ny qy s v (V.setRow g7 d.toArray)) := hL1.put he
          obtain ⟨X, hX⟩ : ∃ X, V.setRow g7 d.toArray = X := ⟨_, rfl⟩
          rw [hX] at hst HL1
          clear he hb hs hX hL1 hL
          go_wp2_with fail
          clear hst
          refine (refFmul_any ay ny qy v ap np qp x X HL1.out.y HL1.out.p (lt33 hvl) (lt33 hxl)).mono ?_
          rintro e Y0 ⟨ab0, nb0, qb0, rfl, hb, hd⟩
          rw [HS.out] at hd
          have HL3 : Hid (Lg w g6 g7 c1 ap np qp x (some ⟨b, off, none⟩) len l d ab0 nb0 qb0 s s Y0) := HL1.out.told hb hd
          clear hb hd HL1
          go_wp2
          exact ⟨⟨k + 1, s, d, ab0, nb0, qb0, by omega, by go_num, rfl, HL3⟩, by simp [intOf]; omega⟩
        · go_wp2_with (first | refine wpList_load_met (by rfl) 28 _ rfl g6 rfl 28 _ (0, 0) _ hL.out.first Tryd.underlying28 rfl (elm_info HE1.out) ?_ | refine wpList_load_met (by rfl) 28 _ rfl g7 rfl 28 _ (0, 0) _ hL.out.cur Tryd.underlying28 rfl (elm_info hL.out.el) ?_ | fail)
          refine (fadd_any cx cx v v wr hL.out.el hL.out.el).mono ?_
          rintro e V ⟨d, rfl, he, hb⟩
          obtain ⟨s, hs⟩ : ∃ s, (v + v) % P255 = s := ⟨_, rfl⟩
          rw [hs] at he
          have HS : Hid ((v + v) % P255 = s) := hs
          have hlend := he.len
          have hL1 := hL.out.later hb
          have hst := store_row V g7 _ _ d hL1.cur (by rw [hlend]; simp [hL1.el.len]) he.one
          have HL1 : Hid (Lg w g6 g7 c1 ap np qp x (some ⟨b, off, none⟩) len l d ay ny qy s v (V.setRow g7 d.toArray)) := hL1.put he
          obtain ⟨X, hX⟩ : ∃ X, V.setRow g7 d.toArray = X := ⟨_, rfl⟩
          rw [hX] at hst HL1
          clear he hb hs hX hL1 hL
          go_wp2_with fail
          clear hst
          refine (refFadd_any ay ny qy v ay ny qy v X HL1.out.y HL1.out.y (lt33 hvl) (lt33 hvl)).mono ?_
          rintro e Y0 ⟨ab0, nb0, qb0, rfl, hb, hd⟩
          rw [HS.out] at hd
          have HL3 : Hid (Lg w g6 g7 c1 ap np qp x (some ⟨b, off, none⟩) len l d ab0 nb0 qb0 s s Y0) := HL1.out.told hb hd
          clear hb hd HL1
          go_wp2
          exact ⟨⟨k + 1, s, d, ab0, nb0, qb0, by omega, by go_num, rfl, HL3⟩, by simp [intOf]; omega⟩
        · go_wp2_with (first | refine wpList_load_met (by rfl) 28 _ rfl g6 rfl 28 _ (0, 0) _ hL.out.first Tryd.underlying28 rfl (elm_info HE1.out) ?_ | refine wpList_load_met (by rfl) 28 _ rfl g7 rfl 28 _ (0, 0) _ hL.out.cur Tryd.underlying28 rfl (elm_info hL.out.el) ?_ | fail)
          refine (fmul_any cx cx v v wr hL.out.el hL.out.el).mono ?_
          rintro e V ⟨d, rfl, he, hb⟩
          obtain ⟨s, hs⟩ : ∃ s, v * v % P255 = s := ⟨_, rfl⟩
          rw [hs] at he
          have HS : Hid (v * v % P255 = s) := hs
          have hlend := he.len
          have hL1 := hL.out.later hb
          have hst := store_row V g7 _ _ d hL1.cur (by rw [hlend]; simp [hL1.el.len]) he.one
          have HL1 : Hid (Lg w g6 g7 c1 ap np qp x (some ⟨b, off, none⟩) len l d ay ny qy s v (V.setRow g7 d.toArray)) := hL1.put he
          obtain ⟨X, hX⟩ : ∃ X, V.setRow g7 d.toArray = X := ⟨_, rfl⟩
          rw [hX] at hst HL1
          clear he hb hs hX hL1 hL
          go_wp2_with fail
          clear hst
          refine (refFmul_any ay ny qy v ay ny qy v X HL1.out.y HL1.out.y (lt33 hvl) (lt33 hvl)).mono ?_
          rintro e Y0 ⟨ab0, nb0, qb0, rfl, hb, hd⟩
          rw [HS.out] at hd
          have HL3 : Hid (Lg w g6 g7 c1 ap np qp x (some ⟨b, off, none⟩) len l d ab0 nb0 qb0 s s Y0) := HL1.out.told hb hd
          clear hb hd HL1
          go_wp2
          exact ⟨⟨k + 1, s, d, ab0, nb0, qb0, by omega, by go_num, rfl, HL3⟩, by simp [intOf]; omega⟩
        · go_wp2_with fail
          obtain ⟨W, hWd⟩ : ∃ W, wr.drew = W := ⟨_, rfl⟩
          have HWd : Hid (wr.drew = W) := hWd
          replace hL := hidup (hL.out.later (by rw [← hWd]; exact (Below.refl _ _).drew : Below wr.heap.size wr W))
          clear hWd
          refine wp_region_sched' (G := Grows) (by kernel_rfl) Grows.refl Grows.trans (by kernel_rfl) [(1, true), (0, false), (2, false), (3, false)] rfl (by kernel_rfl) ?_
          intro KK hKK
          rw [HWd.out]
          clear HWd
          refine sched_take rfl (by rfl) (v := .agg cx.toArray) (fun w' hw' => exec_load_row 28 _ rfl g7 rfl 28 _ (0, 0) _ (hL.out.later hw').cur Tryd.underlying28 rfl (elm_info hL.out.el)) ?_
          go_simp
          refine sched_call (f := 21) (args := #[.int .u32 ((0 : Nat) : Int)]) rfl (by rfl) (by go_simp; try rfl) ?_
          refine (fsmall_any 0 W (by decide)).mono ?_
          rintro e U0 ⟨cz, rfl, hez, hb⟩
          refine ⟨_, rfl, hb, ?_⟩
          have HEz : Hid (Elm cz 0) := hez
          replace hL := hidup (hL.out.later hb)
          clear hez hb
          go_simp
          refine sched_call (f := 17) (args := #[.agg cz.toArray, .agg cx.toArray]) rfl (by rfl) (by go_simp) ?_
          refine (fsub_any cz cx 0 v U0 HEz.out hL.out.el (HTab.out.later hL.out.bel)).mono ?_
          rintro e V ⟨d, rfl, he, hb⟩
          refine ⟨_, rfl, hb, ?_⟩
          rw [Nat.zero_add] at he
          obtain ⟨s, hs⟩ : ∃ s, (P255 - v) % P255 = s := ⟨_, rfl⟩
          rw [hs] at he
          have HS : Hid ((P255 - v) % P255 = s) := hs
          have hlend := he.len
          have hL1 := hL.out.later hb
          have hst := store_row V g7 _ _ d hL1.cur (by rw [hlend]; simp [hL1.el.len]) he.one
          have HL1 : Hid (Lg w g6 g7 c1 ap np qp x (some ⟨b, off, none⟩) len l d ay ny qy s v (V.setRow g7 d.toArray)) := hL1.put he
          obtain ⟨X, hX⟩ : ∃ X, V.setRow g7 d.toArray = X := ⟨_, rfl⟩
          rw [hX] at hst HL1
          clear he hb hs hX hL1 hL
          go_simp
          refine sched_store rfl (by rfl) (w' := X) (by go_simp) (by kernel_rfl) ?_
          clear hst
          go_simp
          refine sched_done hKK ?_
          clear hKK
          go_wp2_with fail
          refine (refFneg_any ay ny qy v X HL1.out.y (Nat.le_of_lt hvl)).mono ?_
          rintro e Y0 ⟨ab0, nb0, qb0, rfl, hb, hd⟩
          rw [HS.out] at hd
          have HL3 : Hid (Lg w g6 g7 c1 ap np qp x (some ⟨b, off, none⟩) len l d ab0 nb0 qb0 s s Y0) := HL1.out.told hb hd
          clear hb hd HL1
          go_wp2
          exact ⟨⟨k + 1, s, d, ab0, nb0, qb0, by omega, by go_num, rfl, HL3⟩, by simp [intOf]; omega⟩
      · have hk6i : ¬ (k : Int) < 60 := by omega
        skip
        go_wp2_with (first | refine wpList_load_met (by rfl) 28 _ rfl g7 rfl 28 _ (0, 0) _ hL.out.cur Tryd.underlying28 rfl (elm_info hL.out.el) ?_ | fail)
        refine (fbytes_any cx v wr hL.out.el).mono ?_
        rintro e Z1 ⟨rfl, hb⟩
        replace hL := hidup (hL.out.later hb)
        clear hb
        go_wp2_with fail
        refine (ftext_any (leB 32 v) Z1 (leB_length _ _)).mono ?_
        rintro e Z2 ⟨rfl, hb⟩
        replace hL := hidup (hL.out.later hb)
        clear hb
        go_wp2_with fail
        refine (refFbytes_any ay ny qy v Z2 hL.out.y (len33 hL.out.y hvl)).mono ?_
        rintro e Z3 ⟨gb, rfl, _, hb, hby⟩
        have hcv := conv_bytes Z3 (some ⟨gb, 0, none⟩) 32 32 (leB 32 v) hby
        replace hL := hidup (hL.out.later hb)
        clear hb hby
        go_wp2
        go_ret
        exact ⟨rfl, hL.out.bel⟩
    · have hki : ¬ (k : Int) < (len : Int) := by omega
      skip
      go_wp2_with (first | refine wpList_load_met (by rfl) 28 _ rfl g7 rfl 28 _ (0, 0) _ hL.out.cur Tryd.underlying28 rfl (elm_info hL.out.el) ?_ | fail)
      refine (fbytes_any cx v wr hL.out.el).mono ?_
      rintro e Z1 ⟨rfl, hb⟩
      replace hL := hidup (hL.out.later hb)
      clear hb
      go_wp2_with fail
      refine (ftext_any (leB 32 v) Z1 (leB_length _ _)).mono ?_
      rintro e Z2 ⟨rfl, hb⟩
      replace hL := hidup (hL.out.later hb)
      clear hb
      go_wp2_with fail
      refine (refFbytes_any ay ny qy v Z2 hL.out.y (len33 hL.out.y hvl)).mono ?_
      rintro e Z3 ⟨gb, rfl, _, hb, hby⟩
      have hcv := conv_bytes Z3 (some ⟨gb, 0, none⟩) 32 32 (leB 32 v) hby
      replace hL := hidup (hL.out.later hb)
      clear hb hby
      go_wp2
      go_ret
      exact ⟨rfl, hL.out.bel⟩
end Go.Proofs.YtgggdcliepgahaaDoor.fieldLong
