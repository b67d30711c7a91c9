/- CipherMixes: what is mixed is what the document says. For every name, and row of steps, where the program's tables are as its text lays them. -/
import Derived.Test.YtdancpcnjklifaaGreatDoorCipShown
import Derived.Test.YtdancpcnjklifaaGreatDoorCipF
import Derived.Test.YtdancpcnjklifaaGreatDoorCipP
import Derived.Test.YtdancpcnjklifaaGreatDoorFrameS
import Derived.Test.YtdancpcnjklifaaGreatDoorRefCn
import Derived.Test.YtdancpcnjklifaaGreatDoorRefCl
namespace Go.Proofs.YtdancpcnjklifaaGreatDoor.cipherMixes
open Go.ChangeShapes Go.WideShapes Go.ChangeAt Go.RowKit
set_option linter.unusedVariables false
set_option maxRecDepth 100000

section
variable {W W' : World} {g x : Nat} {chain hash key : List UInt8} {has : Bool} {n : Nat}
theorem rmx_later (h : RMx W g x chain hash key has n) (hb : Below W.heap.size W W') : RMx W' g x chain hash key has n := by
  obtain ⟨cb, co, cc, hb', ho, hc, kb, ko, kc, h1, h2⟩ := h
  exact ⟨cb, co, cc, hb', ho, hc, kb, ko, kc, h1.later hb, h2⟩
theorem rmx_but (h : RMx W g x chain hash key has n) (hG : W.grownBy W' (some x)) (hg : g ≠ x) : RMx W' g x chain hash key has n := by
  obtain ⟨cb, co, cc, hb', ho, hc, kb, ko, kc, h1, h2, h3, h4⟩ := h
  refine ⟨cb, co, cc, hb', ho, hc, kb, ko, kc, ⟨?_, h1.cl, h1.hl, h1.kl, h1.kh, h1.cB.but hG h2, h1.hB.but hG h3, h1.kB.but hG h4, h1.cg, h1.hg, h1.kg⟩, h2, h3, h4⟩
  rw [hG.block g h1.lt (fun e => hg (by cases e; rfl))]
  exact h1.row
theorem rmx_lt (h : RMx W g x chain hash key has n) : g < W.heap.size := by
  obtain ⟨cb, co, cc, hb', ho, hc, kb, ko, kc, h1, _⟩ := h
  exact h1.lt
end
/-- Two new places for the document's ciphers. -/
theorem rc_place2 (w : World) (A B : List Value) (hA : A.length = 3) (hB : B.length = 3) (oA : ∀ v ∈ A, v.oneCell' = true) (oB : ∀ v ∈ B, v.oneCell' = true) :
    ∃ X1 X2, (storeCells ⟨w.heap.size, 0, none⟩ A).run Tryz.prog ((w.alloc (.cells #[.slice none 0 0, .bool false, .int .u64 0] 43)).alloc (.cells #[.slice none 0 0, .bool false, .int .u64 0] 43)) = .ok () X1 ∧ (storeCells ⟨w.heap.size + 1, 0, none⟩ B).run Tryz.prog X1 = .ok () X2 ∧
      X2.heap[w.heap.size]? = some (.cells A.toArray 43 (0, 0)) ∧ X2.heap[w.heap.size + 1]? = some (.cells B.toArray 43 (0, 0)) ∧ Below w.heap.size w X2 := by
  obtain ⟨c0, hc0⟩ : ∃ c : Array Value, #[Value.slice none 0 0, .bool false, .int .u64 0] = c := ⟨_, rfl⟩
  have hs0 : c0.size = 3 := by rw [← hc0]; rfl
  rw [hc0]
  obtain ⟨W, hW⟩ : ∃ W, (w.alloc (.cells c0 43)).alloc (.cells c0 43) = W := ⟨_, rfl⟩
  have h1 : W.heap[w.heap.size]? = some (.cells c0 43 (0, 0)) := by
    rw [← hW, Below.heap_alloc _ _ _ (by simp), heap_alloc_new]
  have h2 : W.heap[w.heap.size + 1]? = some (.cells c0 43 (0, 0)) := by
    have := heap_alloc_new (w.alloc (.cells c0 43)) (.cells c0 43)
    rw [World.size_alloc] at this
    rw [← hW]
    exact this
  have hbel : Below w.heap.size w W := by rw [← hW]; exact ((Below.refl _ _).alloc (Nat.le_refl _) _).alloc (by simp) _
  have s1 := store_row W w.heap.size _ _ A h1 (by rw [hA, hs0]) oA
  have r1 := setRow_heap W w.heap.size _ A.toArray _ _ h1
  have r2 : (W.setRow w.heap.size A.toArray).heap[w.heap.size + 1]? = _ := (setRow_other W w.heap.size (w.heap.size + 1) _ (by omega)).trans h2
  have hb1 := below_setRow hbel (Nat.le_refl _) A.toArray
  obtain ⟨X1, hX1⟩ : ∃ X, W.setRow w.heap.size A.toArray = X := ⟨_, rfl⟩
  rw [hX1] at s1 r1 r2 hb1
  have s2 := store_row X1 (w.heap.size + 1) _ _ B r2 (by rw [hB, hs0]) oB
  have t1 : (X1.setRow (w.heap.size + 1) B.toArray).heap[w.heap.size]? = _ := (setRow_other X1 (w.heap.size + 1) w.heap.size _ (by omega)).trans r1
  have t2 := setRow_heap X1 (w.heap.size + 1) _ B.toArray _ _ r2
  rw [hW]
  exact ⟨X1, _, s1, s2, t1, t2, below_setRow hb1 (by omega) _⟩
/-- Both mixers, alike, and what was sealed last. -/
structure TX (w : World) (gm gr : Nat) (C H K : List UInt8) (has : Bool) (n : Nat) (a5 : Option Addr) (l5 c5 : Nat) (last : List UInt8) (W : World) : Prop where
  m : MiIs W gm C H K has n
  r : RMx W gr gm C H K has n
  nb : n ≤ 18446744073709551615
  ls : Byt W a5 l5 last
  ln : a5 = none → c5 = 0
  l1 : l5 ≤ 200
  lc : l5 ≤ c5
  lm : c5 ≤ maxLen
  lg : ∀ x o f, a5 = some ⟨x, o, f⟩ → x ≠ gm ∧ x ≠ gr
  bel : Below w.heap.size w W
def TY (w : World) (gm gr : Nat) (a5 : Option Addr) (l5 c5 : Nat) (W : World) : Prop := ∃ C H K has n last, TX w gm gr C H K has n a5 l5 c5 last W
section
variable {w W W' : World} {gm gr : Nat} {C H K : List UInt8} {has : Bool} {n : Nat} {a5 : Option Addr} {l5 c5 : Nat} {last : List UInt8}
theorem TX.later (x : TX w gm gr C H K has n a5 l5 c5 last W) (hb : Below W.heap.size W W') : TX w gm gr C H K has n a5 l5 c5 last W' :=
  ⟨x.m.later hb, rmx_later x.r hb, x.nb, x.ls.later hb, x.ln, x.l1, x.lc, x.lm, x.lg, x.bel.trans (hb.mono x.bel.size)⟩
/-- What the end of a round looks at. -/
theorem TX.looks {cb co cc hb ho hc kb ko kc : Nat} (x : TX w gm gr C H K has n a5 l5 c5 last W) (r : RM W gr cb co cc hb ho hc kb ko kc C H K has n) :
    (convert 28 9 (.slice (some ⟨gm, 0, none⟩) 32 32)).run Tryz.prog W = .ok (.string (S C)) W ∧ (convert 28 9 (.slice (some ⟨gm, 32, none⟩) 32 32)).run Tryz.prog W = .ok (.string (S H)) W ∧
    (convert 28 9 (.slice (some ⟨gm, 64, none⟩) 32 32)).run Tryz.prog W = .ok (.string (S K)) W ∧ W.cell? ⟨gm, 96, none⟩ = some (.bool has) ∧ W.cell? ⟨gm, 97, none⟩ = some (.int .u64 (n : Int)) ∧
    W.cell? ⟨gr, 0, none⟩ = some (.slice (some ⟨cb, co, none⟩) 32 cc) ∧ W.cell? ⟨gr, 1, none⟩ = some (.slice (some ⟨hb, ho, none⟩) 32 hc) ∧ W.cell? ⟨gr, 2, none⟩ = some (.slice (some ⟨kb, ko, none⟩) 32 kc) ∧ W.cell? ⟨gr, 3, none⟩ = some (.bool has) ∧ W.cell? ⟨gr, 4, none⟩ = some (.int .u64 (n : Int)) ∧
    (convert 28 9 (.slice (some ⟨cb, co, none⟩) 32 cc)).run Tryz.prog W = .ok (.string (S C)) W ∧ (convert 28 9 (.slice (some ⟨hb, ho, none⟩) 32 hc)).run Tryz.prog W = .ok (.string (S H)) W ∧ (convert 28 9 (.slice (some ⟨kb, ko, none⟩) 32 kc)).run Tryz.prog W = .ok (.string (S K)) W := by
  obtain ⟨k1, k2, k3, _⟩ := r.cells
  exact ⟨conv_bytes W _ 32 32 C (byt_of_cells x.m.c x.m.chainB), conv_bytes W _ 32 32 H (byt_of_cells x.m.h x.m.hashB), conv_bytes W _ 32 32 K (byt_of_cells x.m.k x.m.keyB), x.m.had.1, x.m.num.1, k1, k2, k3, row_cell r.row rfl, row_cell r.row rfl,
    conv_bytes W _ 32 cc C r.cB, conv_bytes W _ 32 hc H r.hB, conv_bytes W _ 32 kc K r.kB⟩
end
set_option maxHeartbeats 8000000 in
theorem walk (l0 : List UInt8) (a1 : Option Addr) (len1 cap1 : Nat) (w : World) (w0 : l0.length ≤ maxLen) (w1 : IsSteps w a1 len1 cap1) (htab : Tab w) :
    Calls Tryz.prog 3 #[.string (S l0), .slice a1 len1 cap1] w fun e w' => e = .returned (.bool true) ∧ Below w.heap.size w w' := by
  have HR0 := cipup w1
  have HTab := cipup htab
  have hlt := htab.lt
  have hsz : (S l0).size = l0.length := rfl
  obtain ⟨ln, hln⟩ : ∃ ln, min l0.length 50 = ln := ⟨_, rfl⟩
  have hln1 : ln ≤ 50 := by omega
  have hmin : (if (50 : Int) < ((l0.length : Nat) : Int) then (50 : Int) else ((l0.length : Nat) : Int)) = (ln : Int) := by split <;> omega
  obtain ⟨l, hl⟩ : ∃ l, l0.take ln = l := ⟨_, rfl⟩
  have hll : l.length ≤ 50 := by rw [← hl, List.length_take]; omega
  have hex : (S l0).extract 0 ln = S l := by
    rw [← hl]
    apply ByteArray.ext
    simp [S, ByteArray.data_extract]
  have hle : ln ≤ (S l0).size := by rw [hsz]; omega
  clear htab w1 hl
  go_enter Tryz.func3, Tryz.ntmps3
  go_wp2_with fail
  refine (cipShown_any _ HTab.out).mono ?_
  rintro e w4 ⟨rfl, hw4⟩
  have HW4 := cipup hw4
  clear hw4
  go_wp2_with fail
  refine (cnew_any l w4 (by omega) (HTab.out.later HW4.out)).mono ?_
  rintro e w5 ⟨gm, rfl, hgm, hb5, hM5⟩
  have HM5 := cipup hM5
  have HW5 := cipup (HW4.out.trans (hb5.mono HW4.out.size))
  have hwg1 : w.heap.size ≤ gm := Nat.le_trans HW4.out.size hgm
  have hg1l := hM5.lt
  clear hb5 hM5 hgm HW4
  go_wp2_with fail
  refine (refNewMixer_any l w5 (by omega)).mono ?_
  rintro e w6 ⟨gr, rfl, hgr, hb6, hR6⟩
  have hwg2 : w.heap.size ≤ gr := by omega
  have hgg : gm ≠ gr := by omega
  have hgt1 : gm ≠ 0 ∧ gm ≠ 1 := by omega
  have hal : Below w6.heap.size w6 (w6.alloc (.cells #[] 5)) := (Below.refl _ _).alloc (Nat.le_refl _) _
  have hM6 := HM5.out.later hb6
  have hR6' := hR6 gm hg1l
  have HT0 : Hid (TY w gm gr (some ⟨w6.heap.size, 0, none⟩) 0 0 (w6.alloc (.cells #[] 5))) :=
    ⟨_, _, _, _, 0, [], hM6.later hal, rmx_later hR6' hal, (by omega), ⟨rfl, .inl rfl⟩, (fun e => by cases e), (by omega), (by omega), (by unfold maxLen; omega), (fun x o f e => by cases e; have := rmx_lt hR6'; have := hM6.lt; constructor <;> omega), (HW5.out.trans (hb6.mono HW5.out.size)).trans (hal.mono (HW5.out.trans (hb6.mono HW5.out.size)).size)⟩
  clear hb6 hR6 hR6' hM6 hgr HM5 HW5 hg1l hlt hex hle hmin hsz hln hal
  go_wp2_with fail
  go_loopw [8, 9] (fun la i wr => ∃ (k : Nat) (a5 : Option Addr) (l5 c5 : Nat), k ≤ 15 ∧ la = .slice a5 l5 c5 ∧ i = .int .i64 k ∧ Hid (TY w gm gr a5 l5 c5 wr)) (fun _ i _ => 15 - (intOf i).toNat)
  case atStart => exact ⟨0, _, 0, 0, by omega, rfl, rfl, HT0⟩
  case round =>
    clear HT0
    obtain ⟨k, a5, l5, c5, hk, rfl, rfl, HT⟩ := hrel
    by_cases hc : k < len1 ∧ k < 15
    · obtain ⟨hc1, hc2⟩ := hc
      have i1 : (k : Int) < (len1 : Int) := by omega
      have i2 : (k : Int) < 15 := by omega
      obtain ⟨b, off, rfl, hbw, hsteps⟩ := steps_at HR0.out (by omega)
      obtain ⟨kd, ai, li, ci, z1, bi, mi, di, z2, nn, hs0, hs1, hs2, hs3, r1, r2, hnn⟩ := hsteps k hc1
      have hnA := cip_nil r1
      have hnB := cip_nil r2
      obtain ⟨ad, p, hp0, hp1, hp2, hpc, hpm, hAw⟩ := cut_row r1 100
      obtain ⟨bl, q, hq0, hq1, hq2, hqc, hqm, hBw⟩ := cut_row r2 100
      have hpE : (if (100 : Int) < (li : Int) then (100 : Int) else (li : Int)) = (p : Int) := hp0
      have hqE : (if (100 : Int) < (mi : Int) then (100 : Int) else (mi : Int)) = (q : Int) := hq0
      have hal := hAw.1
      have hbl := hBw.1
      have HA := cipup hAw
      have HB := cipup hBw
      obtain ⟨C, H, K, has, n, last, hT⟩ := HT.out
      obtain ⟨W, hWd⟩ : ∃ W, wr.drew = W := ⟨_, rfl⟩
      have HWd := cipup hWd
      have hgr0 : Below wr.heap.size wr W := by rw [← hWd]; exact (Below.refl _ _).drew
      obtain ⟨V, hVd⟩ : ∃ V, W.drew = V := ⟨_, rfl⟩
      have HVd := cipup hVd
      have hgr1 : Below W.heap.size W V := by rw [← hVd]; exact (Below.refl _ _).drew
      have HTW := cipup (hT.later hgr0)
      have HTV := cipup (HTW.out.later hgr1)
      have hcell : ∀ W', Below w.heap.size w W' → ∀ i v, w.cell? ⟨b, i, none⟩ = some v → W'.cell? ⟨b, i, none⟩ = some v := fun W' hW' i v h => by rw [World.cell?_of_block (hW'.block b hbw)]; exact h
      have HcW : Hid (∀ w', Grows W w' → w'.cell? ⟨b, off + k * 4 + 1, none⟩ = some (.slice ai li ci)) := fun w' hw' => hcell w' (HTW.out.bel.trans (hw'.mono HTW.out.bel.size)) _ _ hs1
      have HcV : Hid (∀ w', Grows V w' → w'.cell? ⟨b, off + k * 4 + 2, none⟩ = some (.slice bi mi di)) := fun w' hw' => hcell w' (HTV.out.bel.trans (hw'.mono HTV.out.bel.size)) _ _ hs2
      have v0 : V.cell? ⟨b, off + k * 4, none⟩ = some (.int .i64 kd) := hcell V HTV.out.bel _ _ hs0
      have e1 : (p : Int) ≤ (ci : Int) := by omega
      have e2 : (q : Int) ≤ (di : Int) := by omega
      have hcm1 : ci ≤ 9223372036854775807 := by unfold maxLen at hpm; exact hpm
      have hcm2 : di ≤ 9223372036854775807 := by unfold maxLen at hqm; exact hqm
      clear hp0 hq0 hAw hBw hs0 hs1 hs2 hs3 hsteps r1 r2 hWd hVd hgr0 hgr1 hT hcell HT
      go_wp2
      refine wp_region_sched' (G := Grows) (by kernel_rfl) Grows.refl Grows.trans (by kernel_rfl) [(0, true), (1, true), (2, true), (3, true), (4, true), (5, true), (6, true), (7, true), (8, true), (9, true), (10, true), (11, true), (12, true), (13, true)] rfl (by kernel_rfl) ?_
      intro KK hKK
      rw [HWd.out]
      iterate 14 (refine sched_take rfl (by rfl) (v := ?_) ?_ ?_; rotate_left; (intro w' hw'; have q1 := HcW.out w' hw'; clear hw'; go_simp; with_reducible rfl); go_simp)
      refine sched_done hKK ?_
      clear hKK HcW HWd
      go_wp2
      refine wp_region_sched' (G := Grows) (by kernel_rfl) Grows.refl Grows.trans (by kernel_rfl) [(0, true), (1, true), (2, true), (3, true), (4, true), (5, true), (6, true), (7, true), (8, true), (9, true), (10, true), (11, true), (12, true), (13, true)] rfl (by kernel_rfl) ?_
      intro KK hKK
      rw [HVd.out]
      iterate 14 (refine sched_take rfl (by rfl) (v := ?_) ?_ ?_; rotate_left; (intro w' hw'; have q1 := HcV.out w' hw'; clear hw'; go_simp; with_reducible rfl); go_simp)
      refine sched_done hKK ?_
      clear hKK HcV HVd HTW
      have hgc1 : gm < V.heap.size := HTV.out.m.lt
      have hgr1 : gr < V.heap.size := rmx_lt HTV.out.r
      have HAV := cipup (HA.out.later HTV.out.bel)
      have HBV := cipup (HB.out.later HTV.out.bel)
      have HTT := cipup (HTab.out.later HTV.out.bel)
      by_cases h0 : kd = 0
      · subst h0
        as_aux_lemma =>
          go_wp2_with fail
          refine (cmixkey_any gm C H K has n ai p ci ad V HTV.out.m HAV.out hnA (by omega) (by omega) hpm HTT.out hgt1).mono ?_
          rintro e w5 ⟨⟨v5, rfl⟩, hG5, hM5⟩
          have hW5 := below_but HTV.out.bel hG5 hwg1
          have hR5 := rmx_but HTV.out.r hG5 (fun e => hgg e.symm)
          have hA5 := HA.out.later hW5
          have hL5 := byt_but HTV.out.ls hG5 (fun x o f e => (HTV.out.lg x o f e).1)
          obtain ⟨C8, hC8⟩ : ∃ X, der1 C ad = X := ⟨_, rfl⟩
          obtain ⟨H8, hH8⟩ : ∃ X, H = X := ⟨_, rfl⟩
          obtain ⟨K8, hK8⟩ : ∃ X, der2 C ad = X := ⟨_, rfl⟩
          rw [hC8, hK8, hH8] at hM5
          have HE := cipup (And.intro hC8 (And.intro hH8 hK8))
          have HM5 := cipup hM5
          have HR5 := cipup hR5
          have HW5 := cipup hW5
          have HA5 := cipup hA5
          have HL5 := cipup hL5
          have HL0 := cipup (And.intro HTV.out.ln (And.intro HTV.out.l1 (And.intro HTV.out.lc (And.intro HTV.out.lm HTV.out.lg))))
          have hnb := HTV.out.nb
          have hs5 := hG5.size
          clear hG5 hM5 hW5 hR5 hA5 hL5 hC8 hH8 hK8 HTV HAV HBV HTT v0
          go_wp2_with fail
          obtain ⟨cb, co, cc, hb, ho, hc, kb, ko, kc, hRR, hx3⟩ := HR5.out
          refine (refMixKey_any gr cb co cc hb ho hc kb ko kc C H K has n ai p ci ad w5 hRR gm (by omega) hx3 HA5.out hnA (by omega) (by omega)).mono ?_
          rintro e w6 ⟨⟨v6, rfl⟩, hG6, hR6⟩
          obtain ⟨x1, x2, x3⟩ := HE.out
          rw [x1, x3, x2] at hR6
          clear hRR hx3 cb co cc hb ho hc kb ko kc x1 x2 x3
          have hL6 := byt_but HL5.out hG6 (fun x o f e => (HL0.out.2.2.2.2 x o f e).2)
          have hM6 := HM5.out.but hG6 hgg
          have HT8 := cipup (show TX w gm gr C8 H8 K8 true 0 a5 l5 c5 last w6 from ⟨hM6, hR6, by omega, hL6, HL0.out.1, HL0.out.2.1, HL0.out.2.2.1, HL0.out.2.2.2.1, HL0.out.2.2.2.2, below_but HW5.out hG6 hwg2⟩)
          clear hG6 hR6 hL6 hM6 HL5 HM5 HR5 HW5 HA5 HL0 HE

          obtain ⟨U, hUd⟩ : ∃ U, w6.drew = U := ⟨_, rfl⟩
          have HUd := cipup hUd
          have hgu : Below w6.heap.size w6 U := by rw [← hUd]; exact (Below.refl _ _).drew
          have HTU := cipup (HT8.out.later hgu)
          obtain ⟨cb, co, cc, hb, ho, hc, kb, ko, kc, hRR, _⟩ := HTU.out.r
          have HRU := cipup hRR
          have HLk := cipup (fun w' (hw' : Grows U w') => TX.looks (HTU.out.later hw') (HRU.out.later hw'))
          have z1 := S_beq C8 C8
          have z2 := S_beq H8 H8
          have z3 := S_beq K8 K8
          clear hUd hgu hRR HT8 HRU
          go_wp2_with fail
          refine wp_region_sched' (G := Grows) (by kernel_rfl) Grows.refl Grows.trans (by kernel_rfl) [(0, true), (1, true), (2, true), (3, true), (4, true), (5, true), (6, true), (7, true), (8, true), (9, true), (10, true), (11, true), (12, true), (13, true), (14, true), (15, true), (16, true), (17, true), (18, true), (19, true), (20, true), (21, true), (22, true), (23, true), (24, true), (25, true), (26, true), (27, true), (28, true), (29, true), (30, true), (31, true), (32, true), (33, true), (34, true), (35, true), (36, true), (37, true), (38, true), (39, true), (40, true), (41, true), (42, true), (43, true), (44, true), (45, true), (46, true), (47, true), (48, true), (49, true), (50, true), (51, true), (52, true), (53, true), (54, true), (55, true), (56, true), (57, true), (58, true), (59, true), (60, true), (61, true), (62, true), (63, true), (64, true)] rfl (by kernel_rfl) ?_
          intro KK hKK
          rw [HUd.out]
          iterate 65 (refine sched_take rfl (by rfl) (v := ?_) ?_ ?_; rotate_left; (intro w' hw'; obtain ⟨y1, y2, y3, y4, y5, y6, y7, y8, y9, y10, y11, y12, y13⟩ := HLk.out w' hw'; clear hw'; go_simp; with_reducible rfl); go_simp)
          refine sched_done hKK ?_
          clear hKK HLk HUd z1 z2 z3
          go_wp2_with fail
          exact ⟨⟨k + 1, a5, l5, c5, by omega, rfl, by go_num, ⟨_, _, _, _, _, _, HTU.out⟩⟩, by simp [intOf]; omega⟩
      · skip
        by_cases h1 : kd = 1
        · subst h1
          as_aux_lemma =>
            go_wp2_with fail
            refine (cmixhash_any gm C H K has n bi q di bl V HTV.out.m HBV.out hnB (by omega) (by omega) hqm HTT.out hgt1).mono ?_
            rintro e w5 ⟨⟨v5, rfl⟩, hG5, hM5⟩
            have hW5 := below_but HTV.out.bel hG5 hwg1
            have hR5 := rmx_but HTV.out.r hG5 (fun e => hgg e.symm)
            have hA5 := HB.out.later hW5
            have hL5 := byt_but HTV.out.ls hG5 (fun x o f e => (HTV.out.lg x o f e).1)
            obtain ⟨C8, hC8⟩ : ∃ X, C = X := ⟨_, rfl⟩
            obtain ⟨H8, hH8⟩ : ∃ X, mixH H bl = X := ⟨_, rfl⟩
            obtain ⟨K8, hK8⟩ : ∃ X, K = X := ⟨_, rfl⟩
            rw [hH8, hC8, hK8] at hM5
            have HE := cipup (And.intro hC8 (And.intro hH8 hK8))
            have HM5 := cipup hM5
            have HR5 := cipup hR5
            have HW5 := cipup hW5
            have HA5 := cipup hA5
            have HL5 := cipup hL5
            have HL0 := cipup (And.intro HTV.out.ln (And.intro HTV.out.l1 (And.intro HTV.out.lc (And.intro HTV.out.lm HTV.out.lg))))
            have hnb := HTV.out.nb
            have hs5 := hG5.size
            clear hG5 hM5 hW5 hR5 hA5 hL5 hC8 hH8 hK8 HTV HAV HBV HTT v0
            go_wp2_with fail
            obtain ⟨cb, co, cc, hb, ho, hc, kb, ko, kc, hRR, hx3⟩ := HR5.out
            refine (refMixHash_any gr cb co cc hb ho hc kb ko kc C H K has n bi q di bl w5 hRR gm (by omega) hx3 HA5.out hnB (by omega)).mono ?_
            rintro e w6 ⟨⟨v6, rfl⟩, hG6, hR6⟩
            obtain ⟨x1, x2, x3⟩ := HE.out
            rw [x2, x1, x3] at hR6
            clear hRR hx3 cb co cc hb ho hc kb ko kc x1 x2 x3
            have hL6 := byt_but HL5.out hG6 (fun x o f e => (HL0.out.2.2.2.2 x o f e).2)
            have hM6 := HM5.out.but hG6 hgg
            have HT8 := cipup (show TX w gm gr C8 H8 K8 has n a5 l5 c5 last w6 from ⟨hM6, hR6, by omega, hL6, HL0.out.1, HL0.out.2.1, HL0.out.2.2.1, HL0.out.2.2.2.1, HL0.out.2.2.2.2, below_but HW5.out hG6 hwg2⟩)
            clear hG6 hR6 hL6 hM6 HL5 HM5 HR5 HW5 HA5 HL0 HE

            obtain ⟨U, hUd⟩ : ∃ U, w6.drew = U := ⟨_, rfl⟩
            have HUd := cipup hUd
            have hgu : Below w6.heap.size w6 U := by rw [← hUd]; exact (Below.refl _ _).drew
            have HTU := cipup (HT8.out.later hgu)
            obtain ⟨cb, co, cc, hb, ho, hc, kb, ko, kc, hRR, _⟩ := HTU.out.r
            have HRU := cipup hRR
            have HLk := cipup (fun w' (hw' : Grows U w') => TX.looks (HTU.out.later hw') (HRU.out.later hw'))
            have z1 := S_beq C8 C8
            have z2 := S_beq H8 H8
            have z3 := S_beq K8 K8
            clear hUd hgu hRR HT8 HRU
            go_wp2_with fail
            refine wp_region_sched' (G := Grows) (by kernel_rfl) Grows.refl Grows.trans (by kernel_rfl) [(0, true), (1, true), (2, true), (3, true), (4, true), (5, true), (6, true), (7, true), (8, true), (9, true), (10, true), (11, true), (12, true), (13, true), (14, true), (15, true), (16, true), (17, true), (18, true), (19, true), (20, true), (21, true), (22, true), (23, true), (24, true), (25, true), (26, true), (27, true), (28, true), (29, true), (30, true), (31, true), (32, true), (33, true), (34, true), (35, true), (36, true), (37, true), (38, true), (39, true), (40, true), (41, true), (42, true), (43, true), (44, true), (45, true), (46, true), (47, true), (48, true), (49, true), (50, true), (51, true), (52, true), (53, true), (54, true), (55, true), (56, true), (57, true), (58, true), (59, true), (60, true), (61, true), (62, true), (63, true), (64, true)] rfl (by kernel_rfl) ?_
            intro KK hKK
            rw [HUd.out]
            iterate 65 (refine sched_take rfl (by rfl) (v := ?_) ?_ ?_; rotate_left; (intro w' hw'; obtain ⟨y1, y2, y3, y4, y5, y6, y7, y8, y9, y10, y11, y12, y13⟩ := HLk.out w' hw'; clear hw'; go_simp; with_reducible rfl); go_simp)
            refine sched_done hKK ?_
            clear hKK HLk HUd z1 z2 z3
            go_wp2_with fail
            exact ⟨⟨k + 1, a5, l5, c5, by omega, rfl, by go_num, ⟨_, _, _, _, _, _, HTU.out⟩⟩, by simp [intOf]; omega⟩
        · skip
          by_cases h2 : kd = 2
          · subst h2
            as_aux_lemma =>
              go_wp2_with fail
              refine (csealmixed_any gm C H K has n bi q di bl V HTV.out.m HTV.out.nb HBV.out hnB (by omega) (by omega) hqm HTT.out hgt1).mono ?_
              rintro e w5 ⟨v5, rfl, hG5, hM5, own5⟩
              have hW5 := below_but HTV.out.bel hG5 hwg1
              have hR5 := rmx_but HTV.out.r hG5 (fun e => hgg e.symm)
              have hB5 := HB.out.later hW5
              have hXl := sOut_le K has n H bl
              obtain ⟨X5, hX5⟩ : ∃ X, sOut K has n H bl = X := ⟨_, rfl⟩
              obtain ⟨lx, hlx⟩ : ∃ lx, X5.length = lx := ⟨_, rfl⟩
              rw [hX5] at own5 hXl
              rw [hlx] at own5 hXl
              obtain ⟨C8, hC8⟩ : ∃ X, C = X := ⟨_, rfl⟩
              obtain ⟨H8, hH8⟩ : ∃ X, sHash H K has n bl = X := ⟨_, rfl⟩
              obtain ⟨K8, hK8⟩ : ∃ X, K = X := ⟨_, rfl⟩
              obtain ⟨er, her⟩ : ∃ er, sErr has n = er := ⟨_, rfl⟩
              obtain ⟨n8, hn8⟩ : ∃ m, sNum has n = m := ⟨_, rfl⟩
              have hn8l : n8 ≤ 18446744073709551615 := by rw [← hn8]; exact sNum_le has n HTV.out.nb
              rw [hn8, hH8, hC8, hK8] at hM5
              rw [her]
              have HE := cipup (And.intro hC8 (And.intro hH8 (And.intro hK8 (And.intro hn8 (And.intro her (And.intro hX5 hlx))))))
              obtain ⟨a6, c6, rfl, hL5, hl5, hm5, hn5⟩ := own_parts own5
              have hnew := own_new own5
              have HL5 := cipup hL5
              have HM5 := cipup hM5
              have HR5 := cipup hR5
              have HW5 := cipup hW5
              have HB5 := cipup hB5
              have Hn5 := cipup hn5
              have hnb := HTV.out.nb
              have hs5 := hG5.size
              have hbg := HB.out.apart hwg2
              clear hG5 hM5 own5 hL5 hn5 hW5 hR5 hB5 hX5 hlx HTV HAV HBV her hC8 hH8 hK8 hn8 HTT v0
              go_wp2_with fail
              obtain ⟨cb, co, cc, hb, ho, hc, kb, ko, kc, hRR, hx3⟩ := HR5.out
              refine (refMSeal_any gr cb co cc hb ho hc kb ko kc C H K has n bi q di bl w5 hRR gm (by omega) hx3 hnb HB5.out hnB (by omega) (by omega) hqm hbg).mono ?_
              rintro e w6 ⟨v6, rfl, hG6, hR6, m6, own6⟩
              obtain ⟨x1, x2, x3, x4, x5, x6, x7⟩ := HE.out
              rw [x5]
              rw [x6] at own6
              rw [x4, x2, x1, x3] at hR6
              obtain ⟨a7, c7, rfl, hB7, _, _, _⟩ := own_parts own6
              have hm6 : lx = m6 := by have := hB7.1; rw [x7] at this; exact this
              subst hm6
              clear hRR hx3 cb co cc hb ho hc kb ko kc x1 x2 x3 x4 x5 x6 x7
              have hL6 := byt_but HL5.out hG6 (fun x o f e he => by have := hnew x (by rw [e]; rfl); omega)
              have hM6 := HM5.out.but hG6 hgg
              have HT8 := cipup (show TX w gm gr C8 H8 K8 has n8 a6 lx c6 X5 w6 from ⟨hM6, hR6, hn8l, hL6, Hn5.out, by omega, hl5, hm5, fun x o f e => by have := hnew x (by rw [e]; rfl); constructor <;> omega, below_but HW5.out hG6 hwg2⟩)
              have q1 := conv_bytes w6 a6 lx c6 X5 hL6
              have q2 := conv_bytes w6 a7 lx c7 X5 hB7
              have q3 := S_beq X5 X5
              clear hG6 hR6 own6 hB7 hL6 hM6 HL5 HM5 HR5 HW5 HB5 Hn5 HE hnew hbg

              obtain ⟨U, hUd⟩ : ∃ U, w6.drew = U := ⟨_, rfl⟩
              have HUd := cipup hUd
              have hgu : Below w6.heap.size w6 U := by rw [← hUd]; exact (Below.refl _ _).drew
              have HTU := cipup (HT8.out.later hgu)
              obtain ⟨cb, co, cc, hb, ho, hc, kb, ko, kc, hRR, _⟩ := HTU.out.r
              have HRU := cipup hRR
              have HLk := cipup (fun w' (hw' : Grows U w') => TX.looks (HTU.out.later hw') (HRU.out.later hw'))
              have z1 := S_beq C8 C8
              have z2 := S_beq H8 H8
              have z3 := S_beq K8 K8
              clear hUd hgu hRR HT8 HRU
              go_wp2_with fail
              refine wp_region_sched' (G := Grows) (by kernel_rfl) Grows.refl Grows.trans (by kernel_rfl) [(0, true), (1, true), (2, true), (3, true), (4, true), (5, true), (6, true), (7, true), (8, true), (9, true), (10, true), (11, true), (12, true), (13, true), (14, true), (15, true), (16, true), (17, true), (18, true), (19, true), (20, true), (21, true), (22, true), (23, true), (24, true), (25, true), (26, true), (27, true), (28, true), (29, true), (30, true), (31, true), (32, true), (33, true), (34, true), (35, true), (36, true), (37, true), (38, true), (39, true), (40, true), (41, true), (42, true), (43, true), (44, true), (45, true), (46, true), (47, true), (48, true), (49, true), (50, true), (51, true), (52, true), (53, true), (54, true), (55, true), (56, true), (57, true), (58, true), (59, true), (60, true), (61, true), (62, true), (63, true), (64, true)] rfl (by kernel_rfl) ?_
              intro KK hKK
              rw [HUd.out]
              iterate 65 (refine sched_take rfl (by rfl) (v := ?_) ?_ ?_; rotate_left; (intro w' hw'; obtain ⟨y1, y2, y3, y4, y5, y6, y7, y8, y9, y10, y11, y12, y13⟩ := HLk.out w' hw'; clear hw'; go_simp; with_reducible rfl); go_simp)
              refine sched_done hKK ?_
              clear hKK HLk HUd z1 z2 z3
              go_wp2_with fail
              exact ⟨⟨k + 1, a6, lx, c6, by omega, rfl, by go_num, ⟨_, _, _, _, _, _, HTU.out⟩⟩, by simp [intOf]; omega⟩
          · skip
            by_cases h3 : kd = 3
            · subst h3
              as_aux_lemma =>
                go_wp2_with fail
                refine (csealmixed_any gm C H K has n bi q di bl V HTV.out.m HTV.out.nb HBV.out hnB (by omega) (by omega) hqm HTT.out hgt1).mono ?_
                rintro e w5 ⟨v5, rfl, hG5, hM5, own5⟩
                have hW5 := below_but HTV.out.bel hG5 hwg1
                have hR5 := rmx_but HTV.out.r hG5 (fun e => hgg e.symm)
                have hB5 := HB.out.later hW5
                have hXl := sOut_le K has n H bl
                obtain ⟨X5, hX5⟩ : ∃ X, sOut K has n H bl = X := ⟨_, rfl⟩
                obtain ⟨lx, hlx⟩ : ∃ lx, X5.length = lx := ⟨_, rfl⟩
                rw [hX5] at own5 hXl
                rw [hlx] at own5 hXl
                obtain ⟨C8, hC8⟩ : ∃ X, C = X := ⟨_, rfl⟩
                obtain ⟨H8, hH8⟩ : ∃ X, sHash H K has n bl = X := ⟨_, rfl⟩
                obtain ⟨K8, hK8⟩ : ∃ X, K = X := ⟨_, rfl⟩
                obtain ⟨er, her⟩ : ∃ er, sErr has n = er := ⟨_, rfl⟩
                obtain ⟨n8, hn8⟩ : ∃ m, sNum has n = m := ⟨_, rfl⟩
                have hn8l : n8 ≤ 18446744073709551615 := by rw [← hn8]; exact sNum_le has n HTV.out.nb
                rw [hn8, hH8, hC8, hK8] at hM5
                rw [her]
                have HE := cipup (And.intro hC8 (And.intro hH8 (And.intro hK8 (And.intro hn8 (And.intro her (And.intro hX5 hlx))))))
                obtain ⟨a6, c6, rfl, hL5, hl5, hm5, hn5⟩ := own_parts own5
                have hnew := own_new own5
                have HL5 := cipup hL5
                have HM5 := cipup hM5
                have HR5 := cipup hR5
                have HW5 := cipup hW5
                have HB5 := cipup hB5
                have Hn5 := cipup hn5
                have hnb := HTV.out.nb
                have hs5 := hG5.size
                have hbg := HB.out.apart hwg2
                clear hG5 hM5 own5 hL5 hn5 hW5 hR5 hB5 hX5 hlx HTV HAV HBV her hC8 hH8 hK8 hn8 HTT v0
                go_wp2_with fail
                obtain ⟨cb, co, cc, hb, ho, hc, kb, ko, kc, hRR, hx3⟩ := HR5.out
                refine (refMSeal_any gr cb co cc hb ho hc kb ko kc C H K has n bi q di bl w5 hRR gm (by omega) hx3 hnb HB5.out hnB (by omega) (by omega) hqm hbg).mono ?_
                rintro e w6 ⟨v6, rfl, hG6, hR6, m6, own6⟩
                obtain ⟨x1, x2, x3, x4, x5, x6, x7⟩ := HE.out
                rw [x5]
                rw [x6] at own6
                rw [x4, x2, x1, x3] at hR6
                obtain ⟨a7, c7, rfl, hB7, _, _, _⟩ := own_parts own6
                have hm6 : lx = m6 := by have := hB7.1; rw [x7] at this; exact this
                subst hm6
                clear hRR hx3 cb co cc hb ho hc kb ko kc x1 x2 x3 x4 x5 x6 x7
                have hL6 := byt_but HL5.out hG6 (fun x o f e he => by have := hnew x (by rw [e]; rfl); omega)
                have hM6 := HM5.out.but hG6 hgg
                have HT8 := cipup (show TX w gm gr C8 H8 K8 has n8 a6 lx c6 X5 w6 from ⟨hM6, hR6, hn8l, hL6, Hn5.out, by omega, hl5, hm5, fun x o f e => by have := hnew x (by rw [e]; rfl); constructor <;> omega, below_but HW5.out hG6 hwg2⟩)
                have q1 := conv_bytes w6 a6 lx c6 X5 hL6
                have q2 := conv_bytes w6 a7 lx c7 X5 hB7
                have q3 := S_beq X5 X5
                clear hG6 hR6 own6 hB7 hL6 hM6 HL5 HM5 HR5 HW5 HB5 Hn5 HE hnew hbg

                obtain ⟨U, hUd⟩ : ∃ U, w6.drew = U := ⟨_, rfl⟩
                have HUd := cipup hUd
                have hgu : Below w6.heap.size w6 U := by rw [← hUd]; exact (Below.refl _ _).drew
                have HTU := cipup (HT8.out.later hgu)
                obtain ⟨cb, co, cc, hb, ho, hc, kb, ko, kc, hRR, _⟩ := HTU.out.r
                have HRU := cipup hRR
                have HLk := cipup (fun w' (hw' : Grows U w') => TX.looks (HTU.out.later hw') (HRU.out.later hw'))
                have z1 := S_beq C8 C8
                have z2 := S_beq H8 H8
                have z3 := S_beq K8 K8
                clear hUd hgu hRR HT8 HRU
                go_wp2_with fail
                refine wp_region_sched' (G := Grows) (by kernel_rfl) Grows.refl Grows.trans (by kernel_rfl) [(0, true), (1, true), (2, true), (3, true), (4, true), (5, true), (6, true), (7, true), (8, true), (9, true), (10, true), (11, true), (12, true), (13, true), (14, true), (15, true), (16, true), (17, true), (18, true), (19, true), (20, true), (21, true), (22, true), (23, true), (24, true), (25, true), (26, true), (27, true), (28, true), (29, true), (30, true), (31, true), (32, true), (33, true), (34, true), (35, true), (36, true), (37, true), (38, true), (39, true), (40, true), (41, true), (42, true), (43, true), (44, true), (45, true), (46, true), (47, true), (48, true), (49, true), (50, true), (51, true), (52, true), (53, true), (54, true), (55, true), (56, true), (57, true), (58, true), (59, true), (60, true), (61, true), (62, true), (63, true), (64, true)] rfl (by kernel_rfl) ?_
                intro KK hKK
                rw [HUd.out]
                iterate 65 (refine sched_take rfl (by rfl) (v := ?_) ?_ ?_; rotate_left; (intro w' hw'; obtain ⟨y1, y2, y3, y4, y5, y6, y7, y8, y9, y10, y11, y12, y13⟩ := HLk.out w' hw'; clear hw'; go_simp; with_reducible rfl); go_simp)
                refine sched_done hKK ?_
                clear hKK HLk HUd z1 z2 z3
                go_wp2_with fail
                exact ⟨⟨k + 1, a6, lx, c6, by omega, rfl, by go_num, ⟨_, _, _, _, _, _, HTU.out⟩⟩, by simp [intOf]; omega⟩
            · skip
              by_cases h4 : kd = 4
              · subst h4
                as_aux_lemma =>
                  have hll := HTV.out.l1
                  have hlc := HTV.out.lc
                  have hlm := HTV.out.lm
                  go_wp2_with fail
                  refine (copenmixed_own gm C H K has n a5 l5 c5 last V HTV.out.m HTV.out.nb HTV.out.ls HTV.out.ln (by omega) hlc hlm (fun x o f e => (HTV.out.lg x o f e).1) HTT.out hgt1).mono ?_
                  rintro e w5 ⟨v5, rfl, hG5, hM5, own5⟩
                  have hW5 := below_but HTV.out.bel hG5 hwg1
                  have hR5 := rmx_but HTV.out.r hG5 (fun e => hgg e.symm)
                  have hL5 := byt_but HTV.out.ls hG5 (fun x o f e => (HTV.out.lg x o f e).1)
                  obtain ⟨X5, hX5⟩ : ∃ X, oOut K has n H last = X := ⟨_, rfl⟩
                  obtain ⟨lx, hlx⟩ : ∃ lx, X5.length = lx := ⟨_, rfl⟩
                  rw [hX5, hlx] at own5
                  obtain ⟨C8, hC8⟩ : ∃ X, C = X := ⟨_, rfl⟩
                  obtain ⟨H8, hH8⟩ : ∃ X, oHash H K has n last = X := ⟨_, rfl⟩
                  obtain ⟨K8, hK8⟩ : ∃ X, K = X := ⟨_, rfl⟩
                  obtain ⟨er, her⟩ : ∃ er, oErr K has n H last = er := ⟨_, rfl⟩
                  obtain ⟨n8, hn8⟩ : ∃ m, oNum K has n H last = m := ⟨_, rfl⟩
                  have hn8l : n8 ≤ 18446744073709551615 := by rw [← hn8]; exact oNum_le K has n H last HTV.out.nb
                  rw [hn8, hH8, hC8, hK8] at hM5
                  rw [her]
                  have HE := cipup (And.intro hC8 (And.intro hH8 (And.intro hK8 (And.intro hn8 (And.intro her (And.intro hX5 hlx))))))
                  obtain ⟨a6, c6, rfl, hB6, _, _, _⟩ := own_parts own5
                  have hnew := own_new own5
                  have HB6 := cipup hB6
                  have HL5 := cipup hL5
                  have HM5 := cipup hM5
                  have HR5 := cipup hR5
                  have HW5 := cipup hW5
                  have HL0 := cipup (And.intro HTV.out.ln (And.intro HTV.out.l1 (And.intro HTV.out.lc (And.intro HTV.out.lm HTV.out.lg))))
                  have hnb := HTV.out.nb
                  have hs5 := hG5.size
                  clear hG5 hM5 own5 hB6 hL5 hW5 hR5 hX5 hlx HTV HAV HBV her hC8 hH8 hK8 hn8 HTT v0
                  go_wp2_with fail
                  obtain ⟨cb, co, cc, hb, ho, hc, kb, ko, kc, hRR, hx3⟩ := HR5.out
                  refine (refMOpen_any gr cb co cc hb ho hc kb ko kc C H K has n a5 l5 c5 last w5 hRR gm (by omega) hx3 hnb HL5.out HL0.out.1 (by omega) hlc hlm (fun _ x o f e => (HL0.out.2.2.2.2 x o f e).2)).mono ?_
                  rintro e w6 ⟨v6, rfl, hG6, hR6, m6, own6⟩
                  obtain ⟨x1, x2, x3, x4, x5, x6, x7⟩ := HE.out
                  rw [x5]
                  rw [x6] at own6
                  rw [x4, x2, x1, x3] at hR6
                  obtain ⟨a7, c7, rfl, hB7, _, _, _⟩ := own_parts own6
                  have hm6 : lx = m6 := by have := hB7.1; rw [x7] at this; exact this
                  subst hm6
                  clear hRR hx3 cb co cc hb ho hc kb ko kc x1 x2 x3 x4 x5 x6 x7
                  have hL6 := byt_but HL5.out hG6 (fun x o f e => (HL0.out.2.2.2.2 x o f e).2)
                  have hB6 := byt_but HB6.out hG6 (fun x o f e he => by have := hnew x (by rw [e]; rfl); omega)
                  have hM6 := HM5.out.but hG6 hgg
                  have HT8 := cipup (show TX w gm gr C8 H8 K8 has n8 a5 l5 c5 last w6 from ⟨hM6, hR6, hn8l, hL6, HL0.out.1, HL0.out.2.1, HL0.out.2.2.1, HL0.out.2.2.2.1, HL0.out.2.2.2.2, below_but HW5.out hG6 hwg2⟩)
                  have q1 := conv_bytes w6 a6 lx c6 X5 hB6
                  have q2 := conv_bytes w6 a7 lx c7 X5 hB7
                  have q3 := S_beq X5 X5
                  clear hG6 hR6 own6 hB7 hL6 hB6 hM6 HL5 HM5 HR5 HW5 HB6 HE HL0 hnew

                  obtain ⟨U, hUd⟩ : ∃ U, w6.drew = U := ⟨_, rfl⟩
                  have HUd := cipup hUd
                  have hgu : Below w6.heap.size w6 U := by rw [← hUd]; exact (Below.refl _ _).drew
                  have HTU := cipup (HT8.out.later hgu)
                  obtain ⟨cb, co, cc, hb, ho, hc, kb, ko, kc, hRR, _⟩ := HTU.out.r
                  have HRU := cipup hRR
                  have HLk := cipup (fun w' (hw' : Grows U w') => TX.looks (HTU.out.later hw') (HRU.out.later hw'))
                  have z1 := S_beq C8 C8
                  have z2 := S_beq H8 H8
                  have z3 := S_beq K8 K8
                  clear hUd hgu hRR HT8 HRU
                  go_wp2_with fail
                  refine wp_region_sched' (G := Grows) (by kernel_rfl) Grows.refl Grows.trans (by kernel_rfl) [(0, true), (1, true), (2, true), (3, true), (4, true), (5, true), (6, true), (7, true), (8, true), (9, true), (10, true), (11, true), (12, true), (13, true), (14, true), (15, true), (16, true), (17, true), (18, true), (19, true), (20, true), (21, true), (22, true), (23, true), (24, true), (25, true), (26, true), (27, true), (28, true), (29, true), (30, true), (31, true), (32, true), (33, true), (34, true), (35, true), (36, true), (37, true), (38, true), (39, true), (40, true), (41, true), (42, true), (43, true), (44, true), (45, true), (46, true), (47, true), (48, true), (49, true), (50, true), (51, true), (52, true), (53, true), (54, true), (55, true), (56, true), (57, true), (58, true), (59, true), (60, true), (61, true), (62, true), (63, true), (64, true)] rfl (by kernel_rfl) ?_
                  intro KK hKK
                  rw [HUd.out]
                  iterate 65 (refine sched_take rfl (by rfl) (v := ?_) ?_ ?_; rotate_left; (intro w' hw'; obtain ⟨y1, y2, y3, y4, y5, y6, y7, y8, y9, y10, y11, y12, y13⟩ := HLk.out w' hw'; clear hw'; go_simp; with_reducible rfl); go_simp)
                  refine sched_done hKK ?_
                  clear hKK HLk HUd z1 z2 z3
                  go_wp2_with fail
                  exact ⟨⟨k + 1, a5, l5, c5, by omega, rfl, by go_num, ⟨_, _, _, _, _, _, HTU.out⟩⟩, by simp [intOf]; omega⟩
              · skip
                as_aux_lemma =>
                  obtain ⟨C8, hC8⟩ : ∃ X, C = X := ⟨_, rfl⟩
                  obtain ⟨H8, hH8⟩ : ∃ X, H = X := ⟨_, rfl⟩
                  obtain ⟨K8, hK8⟩ : ∃ X, K = X := ⟨_, rfl⟩
                  have HT8 := HTV
                  rw [hC8, hH8, hK8] at HT8
                  clear HTV HAV HBV hC8 hH8 hK8

                  obtain ⟨U, hUd⟩ : ∃ U, V.drew = U := ⟨_, rfl⟩
                  have HUd := cipup hUd
                  have hgu : Below V.heap.size V U := by rw [← hUd]; exact (Below.refl _ _).drew
                  have HTU := cipup (HT8.out.later hgu)
                  obtain ⟨cb, co, cc, hb, ho, hc, kb, ko, kc, hRR, _⟩ := HTU.out.r
                  have HRU := cipup hRR
                  have HLk := cipup (fun w' (hw' : Grows U w') => TX.looks (HTU.out.later hw') (HRU.out.later hw'))
                  have z1 := S_beq C8 C8
                  have z2 := S_beq H8 H8
                  have z3 := S_beq K8 K8
                  clear hUd hgu hRR HT8 HRU
                  go_wp2_with fail
                  refine wp_region_sched' (G := Grows) (by kernel_rfl) Grows.refl Grows.trans (by kernel_rfl) [(0, true), (1, true), (2, true), (3, true), (4, true), (5, true), (6, true), (7, true), (8, true), (9, true), (10, true), (11, true), (12, true), (13, true), (14, true), (15, true), (16, true), (17, true), (18, true), (19, true), (20, true), (21, true), (22, true), (23, true), (24, true), (25, true), (26, true), (27, true), (28, true), (29, true), (30, true), (31, true), (32, true), (33, true), (34, true), (35, true), (36, true), (37, true), (38, true), (39, true), (40, true), (41, true), (42, true), (43, true), (44, true), (45, true), (46, true), (47, true), (48, true), (49, true), (50, true), (51, true), (52, true), (53, true), (54, true), (55, true), (56, true), (57, true), (58, true), (59, true), (60, true), (61, true), (62, true), (63, true), (64, true)] rfl (by kernel_rfl) ?_
                  intro KK hKK
                  rw [HUd.out]
                  iterate 65 (refine sched_take rfl (by rfl) (v := ?_) ?_ ?_; rotate_left; (intro w' hw'; obtain ⟨y1, y2, y3, y4, y5, y6, y7, y8, y9, y10, y11, y12, y13⟩ := HLk.out w' hw'; clear hw'; go_simp; with_reducible rfl); go_simp)
                  refine sched_done hKK ?_
                  clear hKK HLk HUd z1 z2 z3
                  go_wp2_with fail
                  exact ⟨⟨k + 1, a5, l5, c5, by omega, rfl, by go_num, ⟨_, _, _, _, _, _, HTU.out⟩⟩, by simp [intOf]; omega⟩
    · by_cases hc1 : k < len1
      · have i1 : (k : Int) < (len1 : Int) := by omega
        have i2 : ¬ (k : Int) < 15 := by omega
        as_aux_lemma =>
          clear hc
          obtain ⟨C, H, K, has, n, last, hT⟩ := HT.out
          have HTV := cipup hT
          clear hT HT
          go_wp2_with fail
          refine (csplit_any gm C H K has n wr HTV.out.m (HTab.out.later HTV.out.bel)).mono ?_
          rintro e w5 ⟨rfl, hb5⟩
          obtain ⟨D1, hD1⟩ : ∃ D, der1 C [] = D := ⟨_, rfl⟩
          obtain ⟨D2, hD2⟩ : ∃ D, der2 C [] = D := ⟨_, rfl⟩
          have d1l : D1.length = 32 := by rw [← hD1]; exact der1_length _ _
          have d2l : D2.length = 32 := by rw [← hD2]; exact der2_length _ _
          rw [hD1, hD2]
          have HD := cipup (And.intro hD1 hD2)
          have hlen1 : (CiV D1 true 0).length = 34 := by rw [CiV_length, d1l]
          have hlen2 : (CiV D2 true 0).length = 34 := by rw [CiV_length, d2l]
          obtain ⟨X1, X2, hst1, hst2, hc1', hc2', hbX⟩ := ci_place2 w5 D1 D2 true true 0 0 d1l d2l
          have hbb := hb5.trans (hbX.mono hb5.size)
          have HR2 := cipup (rmx_later HTV.out.r hbb)
          have HW2 := cipup (HTV.out.bel.trans (hbb.mono HTV.out.bel.size))
          have HC1 := cipup hc1'
          have HC2 := cipup hc2'
          simp only [ciZ] at hst1 hst2
          clear hb5 hD1 hD2 hc1' hc2' hbX hbb HTV
          go_wp2_with fail
          clear hst1 hst2
          generalize w5.heap.size = p1 at *
          obtain ⟨cb, co, cc, hb, ho, hc, kb, ko, kc, hRR, _⟩ := HR2.out
          refine (refMSplit_any gr cb co cc hb ho hc kb ko kc C H K has n X2 hRR).mono ?_
          rintro e w7 ⟨vb, vc, rfl, hb7, hk1, hk2⟩
          rw [HD.out.1] at hk1
          rw [HD.out.2] at hk2
          clear hRR
          have ho1 : ∀ v ∈ rcV vb 0 vc, v.oneCell' = true := by intro v hv; simp only [rcV, List.mem_cons, List.not_mem_nil, or_false] at hv; rcases hv with rfl | rfl | rfl <;> rfl
          have ho2 : ∀ v ∈ rcV vb 32 (vc - 32), v.oneCell' = true := by intro v hv; simp only [rcV, List.mem_cons, List.not_mem_nil, or_false] at hv; rcases hv with rfl | rfl | rfl <;> rfl
          obtain ⟨X3, X4, hst3, hst4, hr3, hr4, hbX⟩ := rc_place2 w7 (rcV vb 0 vc) (rcV vb 32 (vc - 32)) rfl rfl ho1 ho2
          have hrl1 : (rcV vb 0 vc).length = 3 := rfl
          have hrl2 : (rcV vb 32 (vc - 32)).length = 3 := rfl
          have HC1' := cipup ((HC1.out.later hb7).later hbX)
          have HC2' := cipup ((HC2.out.later hb7).later hbX)
          have HK1 := cipup (hk1.later hbX)
          have HK2 := cipup (hk2.later hbX)
          have HR3 := cipup hr3
          have HR4 := cipup hr4
          have HW4 := cipup ((HW2.out.trans (hb7.mono HW2.out.size)).trans (hbX.mono (Nat.le_trans HW2.out.size hb7.size)))
          clear hb7 hk1 hk2 hr3 hr4 hbX ho1 ho2 HC1 HC2 HR2 HW2 HD
          go_wp2_with fail
          clear hst3 hst4 hrl1 hrl2 hlen1 hlen2
          generalize w7.heap.size = p2 at *
          obtain ⟨U, hUd⟩ : ∃ U, X4.drew = U := ⟨_, rfl⟩
          have HUd := cipup hUd
          have hgu : Below X4.heap.size X4 U := by rw [← hUd]; exact (Below.refl _ _).drew
          have HWU := cipup (HW4.out.trans (hgu.mono HW4.out.size))
          have HLk : Hid (∀ w', Grows U w' → (convert 28 9 (.slice (some ⟨p1, 0, none⟩) 32 32)).run Tryz.prog w' = .ok (.string (S D1)) w' ∧ (convert 28 9 (.slice (some ⟨p1 + 1, 0, none⟩) 32 32)).run Tryz.prog w' = .ok (.string (S D2)) w' ∧
              w'.cell? ⟨p1, 32, none⟩ = some (.bool true) ∧ w'.cell? ⟨p1, 33, none⟩ = some (.int .u64 0) ∧ w'.cell? ⟨p1 + 1, 32, none⟩ = some (.bool true) ∧ w'.cell? ⟨p1 + 1, 33, none⟩ = some (.int .u64 0) ∧
              w'.cell? ⟨p2, 0, none⟩ = some (.slice (some ⟨vb, 0, none⟩) 32 vc) ∧ w'.cell? ⟨p2 + 1, 0, none⟩ = some (.slice (some ⟨vb, 32, none⟩) 32 (vc - 32)) ∧
              (convert 28 9 (.slice (some ⟨vb, 0, none⟩) 32 vc)).run Tryz.prog w' = .ok (.string (S D1)) w' ∧ (convert 28 9 (.slice (some ⟨vb, 32, none⟩) 32 (vc - 32))).run Tryz.prog w' = .ok (.string (S D2)) w') := fun w' hw' => by
            have hg : Below X4.heap.size X4 w' := hgu.trans (hw'.mono hgu.size)
            have c1 := HC1'.out.later hg
            have c2 := HC2'.out.later hg
            have r3 := row_later HR3.out hg
            have r4 := row_later HR4.out hg
            exact ⟨conv_bytes w' _ 32 32 D1 c1.keyB, conv_bytes w' _ 32 32 D2 c2.keyB, c1.had.1, c1.num.1, c2.had.1, c2.num.1, row_cell r3 rfl, row_cell r4 rfl, conv_bytes w' _ 32 vc D1 (HK1.out.later hg), conv_bytes w' _ 32 (vc - 32) D2 (HK2.out.later hg)⟩
          have z1 := S_beq D1 D1
          have z2 := S_beq D2 D2
          clear hUd hgu HC1' HC2' HK1 HK2 HR3 HR4 HW4
          refine wp_region_sched' (G := Grows) (by kernel_rfl) Grows.refl Grows.trans (by kernel_rfl) [(0, true), (1, true), (2, true), (3, true), (4, true), (5, true), (6, true), (7, true), (8, true), (9, true), (10, true), (11, true), (12, true), (13, true), (14, true), (15, true), (16, true), (17, true), (18, true), (19, true), (20, true), (21, true), (22, true), (23, true), (24, true), (25, true), (26, true), (27, true), (28, true), (29, true), (30, true), (31, true), (32, true), (33, true), (34, true), (35, true), (36, true), (37, true)] rfl (by kernel_rfl) ?_
          intro KK hKK
          rw [HUd.out]
          iterate 38 (refine sched_take rfl (by rfl) (v := ?_) ?_ ?_; rotate_left; (intro w' hw'; obtain ⟨q1, q2, q3, q4, q5, q6, q7, q8, q9, q10⟩ := HLk.out w' hw'; clear hw'; go_simp; with_reducible rfl); go_simp)
          refine sched_done hKK ?_
          clear hKK HLk HUd z1 z2
          go_wp2_with fail
          go_ret
          exact ⟨rfl, HWU.out⟩
      · have i1 : ¬ (k : Int) < (len1 : Int) := by omega
        as_aux_lemma =>
          clear hc
          obtain ⟨C, H, K, has, n, last, hT⟩ := HT.out
          have HTV := cipup hT
          clear hT HT
          go_wp2_with fail
          refine (csplit_any gm C H K has n wr HTV.out.m (HTab.out.later HTV.out.bel)).mono ?_
          rintro e w5 ⟨rfl, hb5⟩
          obtain ⟨D1, hD1⟩ : ∃ D, der1 C [] = D := ⟨_, rfl⟩
          obtain ⟨D2, hD2⟩ : ∃ D, der2 C [] = D := ⟨_, rfl⟩
          have d1l : D1.length = 32 := by rw [← hD1]; exact der1_length _ _
          have d2l : D2.length = 32 := by rw [← hD2]; exact der2_length _ _
          rw [hD1, hD2]
          have HD := cipup (And.intro hD1 hD2)
          have hlen1 : (CiV D1 true 0).length = 34 := by rw [CiV_length, d1l]
          have hlen2 : (CiV D2 true 0).length = 34 := by rw [CiV_length, d2l]
          obtain ⟨X1, X2, hst1, hst2, hc1', hc2', hbX⟩ := ci_place2 w5 D1 D2 true true 0 0 d1l d2l
          have hbb := hb5.trans (hbX.mono hb5.size)
          have HR2 := cipup (rmx_later HTV.out.r hbb)
          have HW2 := cipup (HTV.out.bel.trans (hbb.mono HTV.out.bel.size))
          have HC1 := cipup hc1'
          have HC2 := cipup hc2'
          simp only [ciZ] at hst1 hst2
          clear hb5 hD1 hD2 hc1' hc2' hbX hbb HTV
          go_wp2_with fail
          clear hst1 hst2
          generalize w5.heap.size = p1 at *
          obtain ⟨cb, co, cc, hb, ho, hc, kb, ko, kc, hRR, _⟩ := HR2.out
          refine (refMSplit_any gr cb co cc hb ho hc kb ko kc C H K has n X2 hRR).mono ?_
          rintro e w7 ⟨vb, vc, rfl, hb7, hk1, hk2⟩
          rw [HD.out.1] at hk1
          rw [HD.out.2] at hk2
          clear hRR
          have ho1 : ∀ v ∈ rcV vb 0 vc, v.oneCell' = true := by intro v hv; simp only [rcV, List.mem_cons, List.not_mem_nil, or_false] at hv; rcases hv with rfl | rfl | rfl <;> rfl
          have ho2 : ∀ v ∈ rcV vb 32 (vc - 32), v.oneCell' = true := by intro v hv; simp only [rcV, List.mem_cons, List.not_mem_nil, or_false] at hv; rcases hv with rfl | rfl | rfl <;> rfl
          obtain ⟨X3, X4, hst3, hst4, hr3, hr4, hbX⟩ := rc_place2 w7 (rcV vb 0 vc) (rcV vb 32 (vc - 32)) rfl rfl ho1 ho2
          have hrl1 : (rcV vb 0 vc).length = 3 := rfl
          have hrl2 : (rcV vb 32 (vc - 32)).length = 3 := rfl
          have HC1' := cipup ((HC1.out.later hb7).later hbX)
          have HC2' := cipup ((HC2.out.later hb7).later hbX)
          have HK1 := cipup (hk1.later hbX)
          have HK2 := cipup (hk2.later hbX)
          have HR3 := cipup hr3
          have HR4 := cipup hr4
          have HW4 := cipup ((HW2.out.trans (hb7.mono HW2.out.size)).trans (hbX.mono (Nat.le_trans HW2.out.size hb7.size)))
          clear hb7 hk1 hk2 hr3 hr4 hbX ho1 ho2 HC1 HC2 HR2 HW2 HD
          go_wp2_with fail
          clear hst3 hst4 hrl1 hrl2 hlen1 hlen2
          generalize w7.heap.size = p2 at *
          obtain ⟨U, hUd⟩ : ∃ U, X4.drew = U := ⟨_, rfl⟩
          have HUd := cipup hUd
          have hgu : Below X4.heap.size X4 U := by rw [← hUd]; exact (Below.refl _ _).drew
          have HWU := cipup (HW4.out.trans (hgu.mono HW4.out.size))
          have HLk : Hid (∀ w', Grows U w' → (convert 28 9 (.slice (some ⟨p1, 0, none⟩) 32 32)).run Tryz.prog w' = .ok (.string (S D1)) w' ∧ (convert 28 9 (.slice (some ⟨p1 + 1, 0, none⟩) 32 32)).run Tryz.prog w' = .ok (.string (S D2)) w' ∧
              w'.cell? ⟨p1, 32, none⟩ = some (.bool true) ∧ w'.cell? ⟨p1, 33, none⟩ = some (.int .u64 0) ∧ w'.cell? ⟨p1 + 1, 32, none⟩ = some (.bool true) ∧ w'.cell? ⟨p1 + 1, 33, none⟩ = some (.int .u64 0) ∧
              w'.cell? ⟨p2, 0, none⟩ = some (.slice (some ⟨vb, 0, none⟩) 32 vc) ∧ w'.cell? ⟨p2 + 1, 0, none⟩ = some (.slice (some ⟨vb, 32, none⟩) 32 (vc - 32)) ∧
              (convert 28 9 (.slice (some ⟨vb, 0, none⟩) 32 vc)).run Tryz.prog w' = .ok (.string (S D1)) w' ∧ (convert 28 9 (.slice (some ⟨vb, 32, none⟩) 32 (vc - 32))).run Tryz.prog w' = .ok (.string (S D2)) w') := fun w' hw' => by
            have hg : Below X4.heap.size X4 w' := hgu.trans (hw'.mono hgu.size)
            have c1 := HC1'.out.later hg
            have c2 := HC2'.out.later hg
            have r3 := row_later HR3.out hg
            have r4 := row_later HR4.out hg
            exact ⟨conv_bytes w' _ 32 32 D1 c1.keyB, conv_bytes w' _ 32 32 D2 c2.keyB, c1.had.1, c1.num.1, c2.had.1, c2.num.1, row_cell r3 rfl, row_cell r4 rfl, conv_bytes w' _ 32 vc D1 (HK1.out.later hg), conv_bytes w' _ 32 (vc - 32) D2 (HK2.out.later hg)⟩
          have z1 := S_beq D1 D1
          have z2 := S_beq D2 D2
          clear hUd hgu HC1' HC2' HK1 HK2 HR3 HR4 HW4
          refine wp_region_sched' (G := Grows) (by kernel_rfl) Grows.refl Grows.trans (by kernel_rfl) [(0, true), (1, true), (2, true), (3, true), (4, true), (5, true), (6, true), (7, true), (8, true), (9, true), (10, true), (11, true), (12, true), (13, true), (14, true), (15, true), (16, true), (17, true), (18, true), (19, true), (20, true), (21, true), (22, true), (23, true), (24, true), (25, true), (26, true), (27, true), (28, true), (29, true), (30, true), (31, true), (32, true), (33, true), (34, true), (35, true), (36, true), (37, true)] rfl (by kernel_rfl) ?_
          intro KK hKK
          rw [HUd.out]
          iterate 38 (refine sched_take rfl (by rfl) (v := ?_) ?_ ?_; rotate_left; (intro w' hw'; obtain ⟨q1, q2, q3, q4, q5, q6, q7, q8, q9, q10⟩ := HLk.out w' hw'; clear hw'; go_simp; with_reducible rfl); go_simp)
          refine sched_done hKK ?_
          clear hKK HLk HUd z1 z2
          go_wp2_with fail
          go_ret
          exact ⟨rfl, HWU.out⟩
end Go.Proofs.YtdancpcnjklifaaGreatDoor.cipherMixes
