/- The walk over the document's NewMixer (stage 9). -/
import Derived.Test.YtdancpcnjklifaaGreatDoorRefCk
import Derived.Test.YtdancpcnjklifaaGreatDoorCipCx
namespace Go.Proofs.YtdancpcnjklifaaGreatDoor
set_option linter.unusedVariables false
set_option maxRecDepth 100000
open Go.RowKit

/-- A row of bytes whose block is its own, and in which nothing is frozen. -/
def NRow (W : World) (a : Option Addr) (n c : Nat) : Prop := ∃ g cur t fr, a = some ⟨g, 0, none⟩ ∧ W.heap[g]? = some (.cells cur t fr) ∧ (∀ i, i < cur.size → fr.1 ≤ i → ¬ i < fr.2) ∧ n ≤ c ∧ c ≤ cur.size
/-- What the loop of NewMixer has made so far. -/
structure NM (w : World) (l : List UInt8) (a : Option Addr) (n c : Nat) (W : World) : Prop where
  b : ∃ L, Byt W a n L ∧ L ++ List.replicate (32 - n) 0 = nameB l
  row : n < 32 → NRow W a n c
  nb : ∀ j, blockOf a = some j → w.heap.size ≤ j
  nc : n ≤ c
  n32 : n ≤ 32
  bel : Below w.heap.size w W
/-- 'append(h, 0)'. -/
theorem nm_append {w W : World} {l : List UInt8} {a : Option Addr} {n c : Nat} (x : NM w l a n c W) (hn : n < 32) :
    ∃ a' c' W', (Builtin.append_ #[28, 28] 28 #[.slice a n c, .slice (some ⟨W.heap.size, 0, none⟩) 1 1]).run Tryz.prog (W.alloc (.cells #[.int .u8 0] 5)) = .ok (.slice a' (n + 1) c') W' ∧ NM w l a' (n + 1) c' W' := by
  obtain ⟨i0, hi, hz0, hz1, hz2⟩ := info_parts Tryz.infoU8
  obtain ⟨g, cur, t, fr, rfl, hg, hfr, hnc, hcs⟩ := x.row hn
  obtain ⟨L, hBw, hL⟩ := x.b
  have hgl : g < W.heap.size := (Array.getElem?_eq_some_iff.1 hg).1
  have hwg : w.heap.size ≤ g := x.nb g rfl
  obtain ⟨Z, hZ⟩ : ∃ Z, W.alloc (.cells #[.int .u8 0] 5) = Z := ⟨_, rfl⟩
  have hZ0 : Z.cell? ⟨W.heap.size, 0, none⟩ = some (.int .u8 0) := by
    rw [← hZ, cell_of_row _ _ _ _ _ _ (heap_alloc_new W _)]
    rfl
  have hZb : Below W.heap.size W Z := by rw [← hZ]; exact (Below.refl _ _).alloc (Nat.le_refl _) _
  have hZs : Z.heap.size = W.heap.size + 1 := by rw [← hZ]; simp
  have hZg : Z.heap[g]? = some (.cells cur t fr) := (hZb.block g hgl).trans hg
  have hB := hBw.later hZb
  have hl := hBw.1
  have hbelZ := x.bel.trans (hZb.mono x.bel.size)
  rw [hZ]
  have hnews : ∀ j u, [Value.int .u8 0][j]? = some u → Z.cell? ((⟨W.heap.size, 0, none⟩ : Addr).add j) = some u := by
    intro j u hj
    cases j with
    | zero => cases hj; rw [addr_add]; exact hZ0
    | succ j => simp at hj
  have hL1 : (L ++ [0]) ++ List.replicate (32 - (n + 1)) 0 = nameB l := by
    rw [← hL, List.append_assoc, show 32 - n = (32 - (n + 1)) + 1 by omega, List.replicate_succ]
    rfl
  by_cases hroom : n + 1 ≤ c
  · have hnl : n < cur.size := by omega
    have hcell : Z.cell? ⟨g, n, none⟩ = some cur[n] := by simp [World.cell?, hZg, hnl]
    have hfro : Z.frozen? ⟨g, n, none⟩ = false := by
      obtain ⟨lo, up⟩ := fr
      have h2 := hfr n hnl
      simp only [World.frozen?, hZg, Bool.and_eq_false_iff, decide_eq_false_iff_not]
      by_cases h3 : lo ≤ n
      · exact .inr (h2 h3)
      · exact .inl h3
    have hst : (storeCells ⟨g, n, none⟩ [.int .u8 0]).run Tryz.prog Z = .ok () (Z.setCell ⟨g, n, none⟩ (.int .u8 0)) := by
      have e0 : (⟨g, n, none⟩ : Addr).add 0 = ⟨g, n, none⟩ := by rw [addr_add]; rfl
      have h1 : (store ((⟨g, n, none⟩ : Addr).add 0) (.int .u8 0)).run Tryz.prog Z = .ok () (Z.setCell ⟨g, n, none⟩ (.int .u8 0)) := by
        rw [e0, run_store Tryz.prog Z _ (.int .u8 0) _ rfl, hcell]
        simp [hfro]
      simp only [storeCells, Sem.run_bind, h1]
      rfl
    have hf := run_firstCells_some (P := Tryz.prog) Z 1 1 ⟨W.heap.size, 0, none⟩ 1 1 [.int .u8 0] rfl hnews
    have hB' : Byt (Z.setCell ⟨g, n, none⟩ (.int .u8 0)) (some ⟨g, 0, none⟩) (n + 1) (L ++ [0]) := by
      refine ⟨by simp [hl], .inr ⟨g, 0, rfl, fun i hi => ?_⟩⟩
      rw [Nat.zero_add]
      by_cases e : i = n
      · subst e
        rw [World.cell?_setCell_same _ _ _ hcell, at8_get _ _ (by simp; omega)]
        simp [hl, List.getElem_append_right]
      · rw [World.cell?_setCell_other _ _ _ _ (by intro h; cases h; exact e rfl)]
        obtain ⟨b', o', e', hc'⟩ := hB.at_ i (by omega)
        cases e'
        rw [Nat.zero_add] at hc'
        rw [hc', at8_get _ _ (by omega), at8_get _ _ (by simp; omega)]
        simp [List.getElem_append_left, show i < L.length by omega]
    refine ⟨some ⟨g, 0, none⟩, c, Z.setCell ⟨g, n, none⟩ (.int .u8 0), ?_, ⟨⟨L ++ [0], hB', hL1⟩, fun _ => ?_, x.nb, hroom, by omega, ?_⟩⟩
    · simp [Builtin.append_, run_underlying Tryz.underlying28, sizeOf, typeInfo, hi, hz1, Builtin.lenOf, hroom, hf, Addr.add_lit, hst]
    · refine ⟨g, cur.setIfInBounds n (.int .u8 0), t, fr, rfl, ?_, by simpa using hfr, hroom, by simpa using hcs⟩
      rw [setCell_eq_setRow Z g n cur t fr (.int .u8 0) hZg]
      exact setRow_heap Z g _ _ t _ hZg
    · exact hbelZ.setCell hwg _
  · have hBr : ∀ j v, (L.map bv)[j]? = some v → Z.cell? ((⟨g, 0, none⟩ : Addr).add j) = some v := hB.cells _ rfl
    have hr := run_append_grow (P := Tryz.prog) (w := Z) 28 28 5 i0 (.int .u8 0) Tryz.underlying28 hi hz0 ⟨g, 0, none⟩ n c (L.map bv) (by rw [hz1]; simp [hl]) hBr ⟨W.heap.size, 0, none⟩ 1 1 [.int .u8 0] (by rw [hz1]; rfl) hnews (by omega) (by omega) (by
      have hc : c = n := by omega
      subst hc
      rw [hz2]
      have : ∀ q : Fin 32, Builtin.nextslicecap (q.val + 1) q.val * 1 ≤ 281474976710656 := by decide +kernel
      exact this ⟨c, hn⟩)
    have hs : Z.drew.heap.size = Z.heap.size := rfl
    have hcl : ∀ q, ((L.map bv).toArray ++ [Value.int .u8 0].toArray ++ Builtin.zeroCells (Value.int .u8 0).cells q).size = n + 1 + q := fun q => by simp [hl, Builtin.zeroCells, Value.cells]
    have hcp := grownCap_ge Z (n + 1) c 5
    refine ⟨some ⟨Z.heap.size, 0, none⟩, _, _, hr, ⟨⟨L ++ [0], ?_, hL1⟩, fun _ => ⟨_, _, _, _, rfl, heap_alloc_new Z.drew _, (fun i _ _ h => by cases h), hcp, by rw [hcl]; omega⟩, ?_, hcp, by omega, ?_⟩⟩
    · refine ⟨by simp [hl], .inr ⟨_, 0, rfl, fun i hi => ?_⟩⟩
      have hg2 := heap_alloc_new Z.drew (.cells ((L.map bv).toArray ++ [Value.int .u8 0].toArray ++ Builtin.zeroCells (Value.int .u8 0).cells (grownCap Z (n + 1) c 5 - (n + 1))) 5)
      rw [hs] at hg2
      rw [Nat.zero_add, cell_of_row _ _ _ _ _ _ hg2, at8_get _ _ (by simp; omega)]
      have h1 : i < ((L.map bv).toArray ++ [Value.int .u8 0].toArray).size := by simp; omega
      rw [Array.getElem?_append_left h1]
      have h2 : ((L.map bv).toArray ++ [Value.int .u8 0].toArray) = ((L ++ [0]).map bv).toArray := by simp [bv]
      rw [h2]
      simp only [List.getElem?_toArray, List.getElem?_map]
      rw [List.getElem?_eq_getElem (by simp; omega)]
      rfl
    · intro j hj
      have : Z.heap.size = j := by simpa [blockOf] using hj
      have := x.bel.size
      omega
    · exact (hbelZ.drew).alloc (by rw [hs]; exact hbelZ.size) _
theorem nk_zero (W : World) : (Instr.makeSlice 28 (.int .i64 32) (.int .i64 32)).run Tryz.prog W = .ok (.slice (some ⟨W.heap.size, 0, none⟩) 32 32) (W.alloc (.cells ((List.replicate 32 (0 : UInt8)).map bv).toArray 5)) := make_zero W 32 (by omega)
/-- The name's own bytes. -/
theorem nm_name (w : World) (l : List UInt8) (hl : l.length ≤ 32) : NM w l (some ⟨w.heap.size, 0, none⟩) l.length (grownCap w l.length 0 5) (Lib.bytesWorld w 5 (S l)) := by
  have hcp := grownCap_ge w l.length 0 5
  have hsz : (S l).size = l.length := rfl
  refine ⟨⟨l, name_byt w 5 l, ?_⟩, fun _ => ⟨_, _, _, _, rfl, Lib.bytesWorld_at_new w 5 (S l), (fun i h1 h2 => by simp only at h2; omega), hcp, ?_⟩, ?_, hcp, hl, name_below w _ _⟩
  · unfold nameB
    rw [if_neg (by omega)]
  · simp [Lib.bytesCells, hsz]
    omega
  · intro j hj
    have : w.heap.size = j := by simpa [blockOf] using hj
    omega
set_option maxHeartbeats 2000000 in
theorem refNewMixer_any (l : List UInt8) (w : World) (hlm : l.length ≤ 1000) :
    Calls Tryz.prog 6 #[.string (S l)] w fun e w' => ∃ g, e = .returned (.pointer (some ⟨g, 0, none⟩)) ∧ w.heap.size ≤ g ∧ Below w.heap.size w w' ∧ ∀ x, x < w.heap.size → RMx w' g x (nameB l) (nameB l) (List.replicate 32 0) false 0 := by
  have hcv := fun W => name_conv W l
  have hsz : (S l).size = l.length := rfl
  rw [hsz] at hcv
  have HNm : Hid (l.length ≤ 32 → NM w l (some ⟨w.heap.size, 0, none⟩) l.length (grownCap w l.length 0 5) (Lib.bytesWorld w 5 (S l))) := nm_name w l
  have hB0 := name_byt w 5 l
  have hb0 := name_below w 5 (S l)
  have hcap := grownCap_le_maxLen w l.length 0 5 (by unfold maxLen; omega)
  have hcap' := grownCap_ge w l.length 0 5
  obtain ⟨V, hV⟩ : ∃ V, Lib.bytesWorld w 5 (S l) = V := ⟨_, rfl⟩
  obtain ⟨cp, hcp⟩ : ∃ cp, grownCap w l.length 0 5 = cp := ⟨_, rfl⟩
  have hcv0 := hcv w
  rw [hV, hcp] at hcv0
  rw [hV, hcp] at HNm
  rw [hV] at hB0 hb0
  rw [hcp] at hcap hcap'
  obtain ⟨n, hn⟩ : ∃ n, l.length = n := ⟨_, rfl⟩
  rw [hn] at hcv0 HNm hB0 hcap' hlm
  have HN := ohid hn
  have HB0 := ohid hB0
  have Hb0 := ohid hb0
  clear hcv hsz hV hcp hn hB0 hb0
  go_enter Tryz.func6, Tryz.ntmps6
  by_cases hlong : 32 < n
  · have hli : (32 : Int) < (n : Int) := by omega
    go_wp2_with fail
    refine (refSumB_any (some ⟨w.heap.size, 0, none⟩) n cp l V HB0.out (fun e => by cases e) (by omega) hcap').mono ?_
    rintro e w1 ⟨a1, c1, rfl, hb1, hs1, hk1⟩
    have hE : blakeB l = nameB l := by
      unfold nameB
      rw [if_pos (by rw [HN.out]; exact hlong)]
    rw [hE] at hs1
    have hBs := Byt.ofSeg hs1
    have HM0 : Hid (NM w l a1 32 c1 w1) := ⟨⟨_, hBs, by simp⟩, fun h => by omega, fun j hj => Nat.le_trans Hb0.out.size (hk1 j hj), hs1.cap_le, Nat.le_refl _, Hb0.out.trans (hb1.mono Hb0.out.size)⟩
    clear hb1 hs1 hk1 hBs hE HB0 Hb0 hcv0 HNm hcap hcap'
    go_wp2_with fail
    go_loopw [3] (fun v wr => ∃ (a : Option Addr) (m c : Nat), v = .slice a m c ∧ Hid (NM w l a m c wr)) (fun v _ => 32 - (match v with | .slice _ m _ => m | _ => 0))
    case atStart => exact ⟨_, _, _, rfl, HM0⟩
    case round =>
      clear HM0
      obtain ⟨a, m, c, rfl, HM⟩ := hrel
      by_cases hm : m < 32
      · have hmi : (m : Int) < 32 := by omega
        obtain ⟨a', c', W', hap, hM'⟩ := nm_append HM.out hm
        have HAP := ohid hap
        have HM' := ohid hM'
        clear hap hM' HM
        go_wp2_with (at_builtin; refine wpList_append_run rfl (.tmp 14) (.tmp 15) 28 rfl _ _ _ _ rfl rfl HAP.out ?_)
        exact ⟨⟨a', m + 1, c', rfl, HM'⟩, by show 32 - (m + 1) < 32 - m; omega⟩
      · have em : m = 32 := by have := HM.out.n32; omega
        subst em
        obtain ⟨L, hBL, hL⟩ := HM.out.b
        have hLL : L = nameB l := by rw [← hL]; simp
        subst hLL
        obtain ⟨hb, ho, rfl, _⟩ := hBL.at_ 0 (by omega)
        have hnew := HM.out.nb hb rfl
        have hnc := HM.out.nc
        have hbel := HM.out.bel
        have hzz := nk_zero
        obtain ⟨Zk, hZk⟩ : ∃ Z, ((List.replicate 32 (0 : UInt8)).map bv).toArray = Z := ⟨_, rfl⟩
        rw [hZk] at hzz
        have hK := Arr.new wr 5 (List.replicate 32 0)
        rw [hZk] at hK
        have hal : Below wr.heap.size wr (wr.alloc (.cells Zk 5)) := (Below.refl _ _).alloc (Nat.le_refl _) _
        obtain ⟨Y, hY⟩ : ∃ Y, wr.alloc (.cells Zk 5) = Y := ⟨_, rfl⟩
        rw [hY] at hK hal
        have hz1 := hzz wr
        rw [hY] at hz1
        have hKB := hK.byt 32 rfl
        have HB := ohid (hBL.later hal)
        have HK := ohid hKB
        have HY := ohid (hbel.trans (hal.mono hbel.size))
        have hys := hal.size
        have hlt := hBL.lt (by omega)
        have hwl := hbel.size
        have hky := hK.lt
        clear hzz hK hal hY hKB hBL hL hbel HM hZk
        go_wp2_with fail
        go_ret
        refine ⟨Y.heap.size, rfl, HY.out.size, HY.out.alloc HY.out.size _, fun x hx => ⟨hb, ho, _, hb, ho, _, wr.heap.size, 0, 32, ⟨heap_alloc_new Y _, hnc, hnc, by omega, by omega, HB.out.later ((Below.refl _ _).alloc (Nat.le_refl _) _), HB.out.later ((Below.refl _ _).alloc (Nat.le_refl _) _), HK.out.later ((Below.refl _ _).alloc (Nat.le_refl _) _), by omega, by omega, by omega⟩, by omega, by omega, by omega⟩⟩
  · have hli : ¬ (32 : Int) < (n : Int) := by omega
    have HM0 := ohid (HNm.out (by omega))
    clear HNm HB0 Hb0 hcap hcap'
    go_wp2_with fail
    go_loopw [3] (fun v wr => ∃ (a : Option Addr) (m c : Nat), v = .slice a m c ∧ Hid (NM w l a m c wr)) (fun v _ => 32 - (match v with | .slice _ m _ => m | _ => 0))
    case atStart => exact ⟨_, _, _, rfl, HM0⟩
    case round =>
      clear HM0
      obtain ⟨a, m, c, rfl, HM⟩ := hrel
      by_cases hm : m < 32
      · have hmi : (m : Int) < 32 := by omega
        obtain ⟨a', c', W', hap, hM'⟩ := nm_append HM.out hm
        have HAP := ohid hap
        have HM' := ohid hM'
        clear hap hM' HM
        go_wp2_with (at_builtin; refine wpList_append_run rfl (.tmp 14) (.tmp 15) 28 rfl _ _ _ _ rfl rfl HAP.out ?_)
        exact ⟨⟨a', m + 1, c', rfl, HM'⟩, by show 32 - (m + 1) < 32 - m; omega⟩
      · have em : m = 32 := by have := HM.out.n32; omega
        subst em
        obtain ⟨L, hBL, hL⟩ := HM.out.b
        have hLL : L = nameB l := by rw [← hL]; simp
        subst hLL
        obtain ⟨hb, ho, rfl, _⟩ := hBL.at_ 0 (by omega)
        have hnew := HM.out.nb hb rfl
        have hnc := HM.out.nc
        have hbel := HM.out.bel
        have hzz := nk_zero
        obtain ⟨Zk, hZk⟩ : ∃ Z, ((List.replicate 32 (0 : UInt8)).map bv).toArray = Z := ⟨_, rfl⟩
        rw [hZk] at hzz
        have hK := Arr.new wr 5 (List.replicate 32 0)
        rw [hZk] at hK
        have hal : Below wr.heap.size wr (wr.alloc (.cells Zk 5)) := (Below.refl _ _).alloc (Nat.le_refl _) _
        obtain ⟨Y, hY⟩ : ∃ Y, wr.alloc (.cells Zk 5) = Y := ⟨_, rfl⟩
        rw [hY] at hK hal
        have hz1 := hzz wr
        rw [hY] at hz1
        have hKB := hK.byt 32 rfl
        have HB := ohid (hBL.later hal)
        have HK := ohid hKB
        have HY := ohid (hbel.trans (hal.mono hbel.size))
        have hys := hal.size
        have hlt := hBL.lt (by omega)
        have hwl := hbel.size
        have hky := hK.lt
        clear hzz hK hal hY hKB hBL hL hbel HM hZk
        go_wp2_with fail
        go_ret
        refine ⟨Y.heap.size, rfl, HY.out.size, HY.out.alloc HY.out.size _, fun x hx => ⟨hb, ho, _, hb, ho, _, wr.heap.size, 0, 32, ⟨heap_alloc_new Y _, hnc, hnc, by omega, by omega, HB.out.later ((Below.refl _ _).alloc (Nat.le_refl _) _), HB.out.later ((Below.refl _ _).alloc (Nat.le_refl _) _), HK.out.later ((Below.refl _ _).alloc (Nat.le_refl _) _), by omega, by omega, by omega⟩, by omega, by omega, by omega⟩⟩
end Go.Proofs.YtdancpcnjklifaaGreatDoor
