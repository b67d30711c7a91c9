/- CipherTells: a key that counts seals and opens as the document says. For every cipher, and row of steps, where the program's tables are as its text lays them. -/
import Derived.Test.YtdancpcnjklifaaDoorCipShown
import Derived.Test.YtdancpcnjklifaaDoorCipCq
import Derived.Test.YtdancpcnjklifaaDoorCipF
import Derived.Test.YtdancpcnjklifaaDoorFrameS
import Derived.Test.YtdancpcnjklifaaDoorRefCr
namespace Go.Proofs.YtdancpcnjklifaaDoor.cipherTells
open Go.ChangeShapes Go.WideShapes Go.ChangeAt Go.RowKit
set_option linter.unusedVariables false
set_option maxRecDepth 100000

/-- 'append([]byte{}, l...)' of thirty-two bytes: a new place. -/
theorem app_new (W : World) (g0 b off : Nat) (l : List UInt8) (c : Nat) (hB : Byt W (some ⟨b, off, none⟩) 32 l) :
    ∃ nc w', (Builtin.append_ #[29, 29] 29 #[.slice (some ⟨g0, 0, none⟩) 0 0, .slice (some ⟨b, off, none⟩) 32 c]).run Tryd.prog W = .ok (.slice (some ⟨W.heap.size, 0, none⟩) 32 nc) w' ∧ 32 ≤ nc ∧ nc ≤ maxLen ∧ Byt w' (some ⟨W.heap.size, 0, none⟩) 32 l ∧ Below W.heap.size W w' := by
  obtain ⟨i0, hi, hz0, hz1, hz2⟩ := info_parts Tryd.infoU8
  have hl := hB.1
  have hr := run_append_grow (P := Tryd.prog) (w := W) 29 29 5 i0 (.int .u8 0) Tryd.underlying29 hi hz0 ⟨g0, 0, none⟩ 0 0 [] (by simp) (fun j v hj => by simp at hj) ⟨b, off, none⟩ 32 c (l.map bv) (by rw [hz1]; simp [hl]) (hB.cells _ rfl) (by omega) (by decide) (by rw [hz2]; decide)
  refine ⟨_, _, hr, grownCap_ge _ _ _ _, grownCap_le_maxLen _ _ _ _ (by unfold maxLen; omega), ?_, ((Below.refl _ _).drew).alloc (by simp) _⟩
  refine ⟨hl, .inr ⟨_, 0, rfl, fun i hi => ?_⟩⟩
  have hg := heap_alloc_new W.drew (.cells ([].toArray ++ (l.map bv).toArray ++ Builtin.zeroCells (Value.int .u8 0).cells (grownCap W (0 + 32) 0 5 - (0 + 32))) 5)
  have hs : W.drew.heap.size = W.heap.size := rfl
  rw [hs] at hg
  rw [cell_of_row _ _ _ _ _ _ hg]
  rw [at8_get l i (by omega)]
  simp [show i < l.length by omega, Array.getElem?_append, bv]
theorem exec_app {ev : Operand → Value} {o : Oper} {w w' : World} {v u v' : Value} (s x : Operand) (t : TypeId) (ho : o.op = .call { callee := .builtin .append, args := #[s, x], argTypes := #[t, t] }) (hs : ev s = v) (hx : ev x = u) (hr : (Builtin.append_ #[t, t] o.type #[v, u]).run Tryd.prog w = .ok v' w') :
    (execOp ev o).run Tryd.prog w = .ok (.value v') w' := by
  unfold execOp
  simp only [ho, resolve, invoke, builtin, Sem.run_bind, Sem.run_pure, Result.andThen_ok, List.map_toArray, List.map_cons, List.map_nil, hs, hx, hr]
/-- Both ciphers, alike, and what was sealed last. -/
structure TL (w : World) (gc gr : Nat) (L : List Value) (kb ko kc : Nat) (key : List UInt8) (has : Bool) (n : Nat) (a5 : Option Addr) (l5 c5 : Nat) (last : List UInt8) (W : World) : Prop where
  c : CiIs W gc key has n
  r : RC W gr 0 31 L kb ko kc key has n
  nb : n ≤ 18446744073709551615
  ls : Byt W a5 l5 last
  ln : a5 = none → c5 = 0
  l1 : l5 ≤ 200
  lc : l5 ≤ c5
  lm : c5 ≤ maxLen
  lg : ∀ x o f, a5 = some ⟨x, o, f⟩ → x ≠ gc ∧ x ≠ gr
  kg : kb ≠ gc
  bel : Below w.heap.size w W
def TE (w : World) (gc gr : Nat) (a5 : Option Addr) (l5 c5 : Nat) (W : World) : Prop := ∃ L kb ko kc key has n last, TL w gc gr L kb ko kc key has n a5 l5 c5 last W
section
variable {w W W' : World} {gc gr : Nat} {L : List Value} {kb ko kc : Nat} {key : List UInt8} {has : Bool} {n : Nat} {a5 : Option Addr} {l5 c5 : Nat} {last : List UInt8}
theorem TL.later (x : TL w gc gr L kb ko kc key has n a5 l5 c5 last W) (hb : Below W.heap.size W W') : TL w gc gr L kb ko kc key has n a5 l5 c5 last W' :=
  ⟨x.c.later hb, x.r.later hb, x.nb, x.ls.later hb, x.ln, x.l1, x.lc, x.lm, x.lg, x.kg, x.bel.trans (hb.mono x.bel.size)⟩
/-- The document's cipher stays where the program's is turned. -/
theorem rc_but (x : RC W gr 0 31 L kb ko kc key has n) (hG : W.grownBy W' (some gc)) (hg : gr ≠ gc) (hk : kb ≠ gc) : RC W' gr 0 31 L kb ko kc key has n :=
  ⟨by rw [hG.block gr x.lt (fun e => hg (by cases e; rfl))]; exact x.row, x.k, x.h, x.n, x.lo, x.hi, x.key.but hG hk, x.ne⟩
/-- What the end of a round looks at. -/
theorem TL.looks (x : TL w gc gr L kb ko kc key has n a5 l5 c5 last W) :
    (convert 29 9 (.slice (some ⟨gc, 0, none⟩) 32 32)).run Tryd.prog W = .ok (.string (S key)) W ∧ W.cell? ⟨gr, 0, none⟩ = some (.slice (some ⟨kb, ko, none⟩) 32 kc) ∧ (convert 29 9 (.slice (some ⟨kb, ko, none⟩) 32 kc)).run Tryd.prog W = .ok (.string (S key)) W ∧
    W.cell? ⟨gc, 32, none⟩ = some (.bool has) ∧ W.cell? ⟨gr, 1, none⟩ = some (.bool has) ∧ W.cell? ⟨gc, 33, none⟩ = some (.int .u64 (n : Int)) ∧ W.cell? ⟨gr, 2, none⟩ = some (.int .u64 (n : Int)) := by
  obtain ⟨k1, k2, k3, _, _⟩ := x.r.cells
  exact ⟨conv_bytes W _ 32 32 key x.c.keyB, k1, conv_bytes W _ 32 kc key x.r.key, x.c.had.1, k2, x.c.num.1, k3⟩
end
set_option maxHeartbeats 8000000 in
theorem walk (l0 : List UInt8) (has0 : Bool) (n0 : Nat) (a1 : Option Addr) (len1 cap1 : Nat) (w : World) (lk : l0.length = 32) (ln0 : n0 ≤ 18446744073709551615) (w1 : IsSteps w a1 len1 cap1) (htab : Tab w) :
    Calls Tryd.prog 3 #[.agg (CiV l0 has0 n0).toArray, .slice a1 len1 cap1] w fun e w' => e = .returned (.bool true) ∧ Below w.heap.size w w' := by
  have HR0 := cipup w1
  have HTab := cipup htab
  have hlen : (CiV l0 has0 n0).length = 34 := by rw [CiV_length, lk]
  clear htab w1
  go_enter Tryd.func3, Tryd.ntmps3
  go_wp2_with fail
  have hbC : Below w.heap.size w (w.alloc (.cells (CiV l0 has0 n0).toArray 26)) := (Below.refl _ _).alloc (Nat.le_refl _) _
  refine (cipShown_any _ (HTab.out.later hbC)).mono ?_
  rintro e w4 ⟨rfl, hb4⟩
  have HC4 := cipup ((CiIs.new w l0 has0 n0 lk).later hb4)
  have HW4 := cipup (hbC.trans (hb4.mono hbC.size))
  have hgl : w.heap.size < w4.heap.size := HC4.out.lt
  clear hbC hb4 hlen
  go_wp2_with fail
  obtain ⟨W, hW⟩ : ∃ W, w4.drew = W := ⟨_, rfl⟩
  have hgr : Below w4.heap.size w4 W := by rw [← hW]; exact (Below.refl _ _).drew
  have HWW := cipup hgr
  have HCW := cipup (HC4.out.later hgr)
  have hWe := cipup hW
  clear hW hgr
  rw [← hWe.out] at HWW HCW
  clear hWe
  obtain ⟨gc, hgc⟩ : ∃ gc, w.heap.size = gc := ⟨_, rfl⟩
  have HGC := cipup hgc
  rw [hgc] at HCW HC4 hgl ⊢
  clear hgc
  refine wp_region_vals 10 (by decide) (by kernel_rfl) (by kernel_rfl) (by kernel_rfl) (by kernel_rfl)
    (fun j x W' => match j with
      | 0 => ∃ g0, x = .slice (some ⟨g0, 0, none⟩) 0 0
      | 1 => x = .pointer (some ⟨gc, 0, none⟩)
      | 2 => x = .slice (some ⟨gc, 0, none⟩) 32 32
      | 3 => ∃ kb kc, x = .slice (some ⟨kb, 0, none⟩) 32 kc ∧ w4.heap.size ≤ kb ∧ 32 ≤ kc ∧ kc ≤ 9223372036854775807 ∧ Byt W' (some ⟨kb, 0, none⟩) 32 l0
      | 4 => x = .pointer (some ⟨gc, 32, none⟩)
      | 5 => x = .bool has0
      | 6 => x = .pointer (some ⟨gc, 33, none⟩)
      | 7 => x = .int .u64 (n0 : Int)
      | 8 => ∃ kb kc, x = .agg #[.slice (some ⟨kb, 0, none⟩) 32 kc, .bool has0, .int .u64 (n0 : Int)] ∧ w4.heap.size ≤ kb ∧ 32 ≤ kc ∧ kc ≤ 9223372036854775807 ∧ Byt W' (some ⟨kb, 0, none⟩) 32 l0
      | 9 => ∃ gr, x = .pointer (some ⟨gr, 0, none⟩) ∧ w4.heap.size ≤ gr ∧ W'.heap[gr]? = some (.cells #[.slice none 0 0, .bool false, .int .u64 0] 31 (0, 0))
      | _ => True) ?_ ?_ ?_
  · intro j x W W' h hb
    match j with
    | 3 => obtain ⟨kb, kc, h1, h2, h3, h4, h5⟩ := h; exact ⟨kb, kc, h1, h2, h3, h4, h5.later hb⟩
    | 8 => obtain ⟨kb, kc, h1, h2, h3, h4, h5⟩ := h; exact ⟨kb, kc, h1, h2, h3, h4, h5.later hb⟩
    | 9 => obtain ⟨gr, h1, h2, h3⟩ := h; exact ⟨gr, h1, h2, row_later9 h3 hb⟩
    | 0 | 1 | 2 | 4 | 5 | 6 | 7 | n + 10 => exact h
  · intro d v W' i o A hi ho hv hdep hA hb
    have hW' := HWW.out.trans (hb.mono HWW.out.size)
    have hC' := HCW.out.later hb
    have hcs : i = 0 ∨ i = 1 ∨ i = 2 ∨ i = 3 ∨ i = 4 ∨ i = 5 ∨ i = 6 ∨ i = 7 ∨ i = 8 ∨ i = 9 := by omega
    rcases hcs with rfl | rfl | rfl | rfl | rfl | rfl | rfl | rfl | rfl | rfl
    · cases ho
      exact ⟨rfl, oper_val (v := .slice (some ⟨W'.heap.size, 0, none⟩) 0 0) (w' := W'.alloc (.cells #[] 5)) (by first | (go_simp; done) | (go_simp; rfl)) ⟨_, rfl, ⟨_, rfl⟩, (Below.refl _ _).alloc (Nat.le_refl _) _⟩⟩
    · cases ho
      have h0 : A.tmps[2]?.getD undef = .pointer (some ⟨gc, 0, none⟩) := slotv ((hA.keep 2 (by kernel_rfl)).trans rfl)
      exact ⟨rfl, oper_val (v := .pointer (some ⟨gc, 0, none⟩)) (w' := W') (by go_simp) ⟨_, rfl, rfl, Below.refl _ _⟩⟩
    · cases ho
      have h0 : A.tmps[21]?.getD undef = .pointer (some ⟨gc, 0, none⟩) := slotv ((hA.got hdep 1 21 (by decide) (by kernel_rfl) rfl (of_decide_eq_true (by kernel_rfl))).trans (hv 1 (by decide) (vdone hdep 1 (by kernel_rfl))))
      exact ⟨rfl, oper_val (v := .slice (some ⟨gc, 0, none⟩) 32 32) (w' := W') (by go_simp) ⟨_, rfl, rfl, Below.refl _ _⟩⟩
    · cases ho
      obtain ⟨g0, h0⟩ := hv 0 (by decide) (vdone hdep 0 (by kernel_rfl))
      replace h0 := (hA.got hdep 0 20 (by decide) (by kernel_rfl) rfl (of_decide_eq_true (by kernel_rfl))).trans h0
      have h2 := (hA.got hdep 2 22 (by decide) (by kernel_rfl) rfl (of_decide_eq_true (by kernel_rfl))).trans (hv 2 (by decide) (vdone hdep 2 (by kernel_rfl)))
      obtain ⟨nc, w', hr, hnc, hnm, hB', hb'⟩ := app_new W' g0 gc 0 l0 32 hC'.keyB
      exact ⟨rfl, oper_val (exec_app (.tmp 20) (.tmp 22) 29 rfl h0 h2 hr) ⟨_, rfl, ⟨_, _, rfl, hW'.size, hnc, by unfold maxLen at hnm; omega, hB'⟩, hb'⟩⟩
    · cases ho
      have h0 : A.tmps[2]?.getD undef = .pointer (some ⟨gc, 0, none⟩) := slotv ((hA.keep 2 (by kernel_rfl)).trans rfl)
      exact ⟨rfl, oper_val (v := .pointer (some ⟨gc, 32, none⟩)) (w' := W') (by go_simp) ⟨_, rfl, rfl, Below.refl _ _⟩⟩
    · cases ho
      have h0 : A.tmps[24]?.getD undef = .pointer (some ⟨gc, 32, none⟩) := slotv ((hA.got hdep 4 24 (by decide) (by kernel_rfl) rfl (of_decide_eq_true (by kernel_rfl))).trans (hv 4 (by decide) (vdone hdep 4 (by kernel_rfl))))
      have q1 := hC'.had.1
      exact ⟨rfl, oper_val (v := .bool has0) (w' := W') (by go_simp) ⟨_, rfl, rfl, Below.refl _ _⟩⟩
    · cases ho
      have h0 : A.tmps[2]?.getD undef = .pointer (some ⟨gc, 0, none⟩) := slotv ((hA.keep 2 (by kernel_rfl)).trans rfl)
      exact ⟨rfl, oper_val (v := .pointer (some ⟨gc, 33, none⟩)) (w' := W') (by go_simp) ⟨_, rfl, rfl, Below.refl _ _⟩⟩
    · cases ho
      have h0 : A.tmps[26]?.getD undef = .pointer (some ⟨gc, 33, none⟩) := slotv ((hA.got hdep 6 26 (by decide) (by kernel_rfl) rfl (of_decide_eq_true (by kernel_rfl))).trans (hv 6 (by decide) (vdone hdep 6 (by kernel_rfl))))
      have q1 := hC'.num.1
      exact ⟨rfl, oper_val (v := .int .u64 (n0 : Int)) (w' := W') (by go_simp) ⟨_, rfl, rfl, Below.refl _ _⟩⟩
    · cases ho
      obtain ⟨kb, kc, h3, h4, h5, h6, h7⟩ := hv 3 (by decide) (vdone hdep 3 (by kernel_rfl))
      replace h3 := slotv ((hA.got hdep 3 23 (by decide) (by kernel_rfl) rfl (of_decide_eq_true (by kernel_rfl))).trans h3)
      have k5 : A.tmps[25]?.getD undef = .bool has0 := slotv ((hA.got hdep 5 25 (by decide) (by kernel_rfl) rfl (of_decide_eq_true (by kernel_rfl))).trans (hv 5 (by decide) (vdone hdep 5 (by kernel_rfl))))
      have k7 : A.tmps[27]?.getD undef = .int .u64 (n0 : Int) := slotv ((hA.got hdep 7 27 (by decide) (by kernel_rfl) rfl (of_decide_eq_true (by kernel_rfl))).trans (hv 7 (by decide) (vdone hdep 7 (by kernel_rfl))))
      exact ⟨rfl, oper_val (v := .agg #[.slice (some ⟨kb, 0, none⟩) 32 kc, .bool has0, .int .u64 (n0 : Int)]) (w' := W') (by first | (go_simp; done) | (go_simp; rfl)) ⟨_, rfl, ⟨kb, kc, rfl, h4, h5, h6, h7⟩, Below.refl _ _⟩⟩
    · cases ho
      exact ⟨rfl, oper_val (v := .pointer (some ⟨W'.heap.size, 0, none⟩)) (w' := W'.alloc (.cells #[.slice none 0 0, .bool false, .int .u64 0] 31)) (by first | (go_simp; done) | (go_simp; rfl)) ⟨_, rfl, ⟨_, rfl, hW'.size, heap_alloc_new W' _⟩, (Below.refl _ _).alloc (Nat.le_refl _) _⟩⟩
  intro v W' hv hb
  obtain ⟨kb, kc, e8, hkb, hk1, hk2, hkB⟩ := hv 8 (by decide)
  obtain ⟨gr, e9, hgr, hrow⟩ := hv 9 (by decide)
  have hW' := HWW.out.trans (hb.mono HWW.out.size)
  have hC' := HCW.out.later hb
  have hne : kb ≠ gr := by
    rintro rfl
    obtain ⟨b, o, e, hc⟩ := hkB.at_ 0 (by omega)
    cases e
    rw [cell_of_row W' _ _ _ _ _ hrow] at hc
    cases hc
  have hone : ∀ u ∈ [Value.slice (some ⟨kb, 0, none⟩) 32 kc, .bool has0, .int .u64 (n0 : Int)], u.oneCell' = true := by
    intro u hu
    simp only [List.mem_cons, List.not_mem_nil, or_false] at hu
    rcases hu with rfl | rfl | rfl <;> rfl
  obtain ⟨vs, hvs⟩ : ∃ vs, [Value.slice (some ⟨kb, 0, none⟩) 32 kc, .bool has0, .int .u64 (n0 : Int)] = vs := ⟨_, rfl⟩
  have hvl : vs.length = 3 := by rw [← hvs]; rfl
  have e8' : v 8 = .agg vs.toArray := by rw [e8, ← hvs]
  have hst := store_row W' gr _ _ vs hrow (by rw [hvl]; rfl) (by rw [← hvs]; exact hone)
  have hr := setRow_heap W' gr _ [Value.slice (some ⟨kb, 0, none⟩) 32 kc, .bool has0, .int .u64 (n0 : Int)].toArray _ _ hrow
  have hbx := below_setRow hW' hgr [Value.slice (some ⟨kb, 0, none⟩) 32 kc, .bool has0, .int .u64 (n0 : Int)].toArray
  have hkB' := hkB.but (But.setRow W' gr [Value.slice (some ⟨kb, 0, none⟩) 32 kc, .bool has0, .int .u64 (n0 : Int)].toArray) hne
  obtain ⟨X, hX⟩ : ∃ X, W'.setRow gr vs.toArray = X := ⟨_, rfl⟩
  rw [hvs] at hr hbx hkB'
  rw [hX] at hst hr hbx hkB'
  have hR : RC X gr 0 31 [.slice (some ⟨kb, 0, none⟩) 32 kc, .bool has0, .int .u64 (n0 : Int)] kb 0 kc l0 has0 n0 := ⟨by rw [hvs]; exact hr, rfl, rfl, rfl, hk1, hk2, hkB', hne⟩
  have hCX := HC4.out.later hbx
  have hgg : gc ≠ gr := by omega
  have hwg : w.heap.size ≤ gc := Nat.le_of_eq HGC.out
  have hXs := hbx.size
  have hal : Below X.heap.size X (X.alloc (.cells #[] 5)) := (Below.refl _ _).alloc (Nat.le_refl _) _
  have HT0 : Hid (TE w gc gr (some ⟨X.heap.size, 0, none⟩) 0 0 (X.alloc (.cells #[] 5))) :=
    ⟨_, kb, 0, kc, l0, has0, n0, [], hCX.later hal, hR.later hal, ln0, ⟨rfl, .inl rfl⟩, (fun e => by cases e), (by omega), (by omega), (by unfold maxLen; omega), (fun x o f e => by cases e; constructor <;> (have := hR.lt; have := hCX.lt; omega)), (by omega), (HW4.out.trans (hbx.mono HW4.out.size)).trans (hal.mono (Nat.le_trans HW4.out.size hbx.size))⟩
  have hwr : w.heap.size ≤ gr := by omega
  clear hr hbx hkB' hX hR hCX hal hC' hW' hb hrow hkB HWW HCW HC4 HW4 hgr hkb hXs
  refine vtail (a' := { tmps := #[.agg (CiV l0 has0 n0).toArray, .slice a1 len1 cap1, .pointer (some ⟨gc, 0, none⟩), undef, .bool false, .bool true, v 9, undef, undef, undef, undef, undef, undef, undef, undef, undef, undef, undef, undef, .bool true, v 0, v 1, v 2, v 3, v 4, v 5, v 6, v 7, v 8, undef, undef, undef, undef, undef, undef, undef, undef, undef, undef, undef, undef, undef, undef, undef, undef, undef, undef, undef, undef, undef, undef, undef, undef, undef, undef, undef, undef, undef, undef, undef, undef, undef, undef, undef, undef, undef, undef, undef, undef, undef, undef, undef, undef, undef, undef, undef, undef, undef, undef, undef, undef, undef, undef, undef, undef, undef, undef, undef, undef, undef, undef, undef, undef, undef, undef, undef, undef, undef, undef, undef, undef, undef, undef, undef, undef, undef, undef, undef, undef, undef, undef, undef, undef, undef, undef, undef, undef, undef, undef, undef, undef, undef, undef, undef, undef, undef, undef, undef, undef, undef, undef, undef, undef, undef, undef, undef, undef, undef, undef, undef, undef, undef, undef, undef, undef, undef, undef, undef, undef, undef, undef, undef, undef, undef, undef, undef, undef, undef, undef, undef, undef, undef, undef, undef, undef, undef, undef, undef, undef], defers := [] }) rfl (by kernel_rfl) ?_
  rw [e8', e9]
  clear e8 e8' e9 hv hvs
  go_wp2_with fail
  clear hst hone hvl
  go_loopw [7, 8] (fun la i wr => ∃ (k : Nat) (a5 : Option Addr) (l5 c5 : Nat), k ≤ 20 ∧ la = .slice a5 l5 c5 ∧ i = .int .i64 k ∧ Hid (TE w gc gr a5 l5 c5 wr)) (fun _ i _ => 20 - (intOf i).toNat)
  case atStart => exact ⟨0, _, 0, 0, by omega, rfl, rfl, HT0⟩
  case round =>
    clear HT0
    obtain ⟨k, a5, l5, c5, hk, rfl, rfl, HT⟩ := hrel
    by_cases hc : k < len1 ∧ k < 20
    · obtain ⟨hc1, hc2⟩ := hc
      have i1 : (k : Int) < (len1 : Int) := by omega
      have i2 : (k : Int) < 20 := by omega
      obtain ⟨b, off, rfl, hbw, hsteps⟩ := steps_at HR0.out (by omega)
      obtain ⟨kd, ai, li, ci, z1, bi, mi, di, z2, nn, hs0, hs1, hs2, hs3, r1, r2, hnn⟩ := hsteps k hc1
      have hnA := cip_nil r1
      have hnB := cip_nil r2
      obtain ⟨ad, p, hp0, hp1, hp2, hpc, hpm, hAw⟩ := cut_row r1 100
      obtain ⟨bl, q, hq0, hq1, hq2, hqc, hqm, hBw⟩ := cut_row r2 100
      have hpE : (if (100 : Int) < (li : Int) then (100 : Int) else (li : Int)) = (p : Int) := hp0
      have hqE : (if (100 : Int) < (mi : Int) then (100 : Int) else (mi : Int)) = (q : Int) := hq0
      have hal := hAw.1
      have hbl := hBw.1
      have HA := cipup hAw
      have HB := cipup hBw
      obtain ⟨L, kb, ko, kc, key, has, n, last, hT⟩ := HT.out
      obtain ⟨W, hWd⟩ : ∃ W, wr.drew = W := ⟨_, rfl⟩
      have HWd := cipup hWd
      have hgr0 : Below wr.heap.size wr W := by rw [← hWd]; exact (Below.refl _ _).drew
      obtain ⟨V, hVd⟩ : ∃ V, W.drew = V := ⟨_, rfl⟩
      have HVd := cipup hVd
      have hgr1 : Below W.heap.size W V := by rw [← hVd]; exact (Below.refl _ _).drew
      have HTW := cipup (hT.later hgr0)
      have HTV := cipup (HTW.out.later hgr1)
      have hcell : ∀ W', Below w.heap.size w W' → ∀ i v, w.cell? ⟨b, i, none⟩ = some v → W'.cell? ⟨b, i, none⟩ = some v := fun W' hW' i v h => by rw [World.cell?_of_block (hW'.block b hbw)]; exact h
      have HcW : Hid (∀ w', Grows W w' → w'.cell? ⟨b, off + k * 4 + 1, none⟩ = some (.slice ai li ci)) := fun w' hw' => hcell w' (HTW.out.bel.trans (hw'.mono HTW.out.bel.size)) _ _ hs1
      have HcV : Hid (∀ w', Grows V w' → w'.cell? ⟨b, off + k * 4 + 2, none⟩ = some (.slice bi mi di)) := fun w' hw' => hcell w' (HTV.out.bel.trans (hw'.mono HTV.out.bel.size)) _ _ hs2
      have v0 : V.cell? ⟨b, off + k * 4, none⟩ = some (.int .i64 kd) := hcell V HTV.out.bel _ _ hs0
      have HN3 : Hid (∀ W', Below w.heap.size w W' → W'.cell? ⟨b, off + k * 4 + 3, none⟩ = some (.int .u64 (nn : Int))) := fun W' hW' => hcell W' hW' _ _ hs3
      have e1 : (p : Int) ≤ (ci : Int) := by omega
      have e2 : (q : Int) ≤ (di : Int) := by omega
      have hcm1 : ci ≤ 9223372036854775807 := by unfold maxLen at hpm; exact hpm
      have hcm2 : di ≤ 9223372036854775807 := by unfold maxLen at hqm; exact hqm
      clear hp0 hq0 hAw hBw hs0 hs1 hs2 hs3 hsteps r1 r2 hWd hVd hgr0 hgr1 hT hcell HT
      go_wp2
      refine wp_region_sched' (G := Grows) (by kernel_rfl) Grows.refl Grows.trans (by kernel_rfl) [(0, true), (1, true), (2, true), (3, true), (4, true), (5, true), (6, true), (7, true), (8, true), (9, true), (10, true), (11, true), (12, true), (13, true)] rfl (by kernel_rfl) ?_
      intro KK hKK
      rw [HWd.out]
      iterate 14 (refine sched_take rfl (by rfl) (v := ?_) ?_ ?_; rotate_left; (intro w' hw'; have q1 := HcW.out w' hw'; clear hw'; go_simp; with_reducible rfl); go_simp)
      refine sched_done hKK ?_
      clear hKK HcW HWd
      go_wp2
      refine wp_region_sched' (G := Grows) (by kernel_rfl) Grows.refl Grows.trans (by kernel_rfl) [(0, true), (1, true), (2, true), (3, true), (4, true), (5, true), (6, true), (7, true), (8, true), (9, true), (10, true), (11, true), (12, true), (13, true)] rfl (by kernel_rfl) ?_
      intro KK hKK
      rw [HVd.out]
      iterate 14 (refine sched_take rfl (by rfl) (v := ?_) ?_ ?_; rotate_left; (intro w' hw'; have q1 := HcV.out w' hw'; clear hw'; go_simp; with_reducible rfl); go_simp)
      refine sched_done hKK ?_
      clear hKK HcV HVd HTW
      have hgc1 : gc < V.heap.size := HTV.out.c.lt
      have hgr1 : gr < V.heap.size := HTV.out.r.lt
      have HAV := cipup (HA.out.later HTV.out.bel)
      have HBV := cipup (HB.out.later HTV.out.bel)
      by_cases h0 : kd = 0
      · subst h0
        go_wp2_with fail
        refine (cseal_any gc key has n ai p ci ad bi q di bl V HTV.out.c HTV.out.nb HAV.out hnA (by omega) (by omega) hpm HBV.out hnB (by omega) (by omega) hqm).mono ?_
        rintro e w5 ⟨v5, rfl, hG5, hC5, own5⟩
        have hW5 := below_but HTV.out.bel hG5 hwg
        have hR5 := rc_but HTV.out.r hG5 (fun e => hgg e.symm) HTV.out.kg
        have hA5 := HA.out.later hW5
        have hB5 := HB.out.later hW5
        have hXl := sOut_le key has n ad bl
        obtain ⟨X5, hX5⟩ : ∃ X, sOut key has n ad bl = X := ⟨_, rfl⟩
        obtain ⟨lx, hlx⟩ : ∃ lx, X5.length = lx := ⟨_, rfl⟩
        rw [hX5] at own5 hXl
        rw [hlx] at own5 hXl
        obtain ⟨a6, c6, rfl, hL5, hl5, hm5, hn5⟩ := own_parts own5
        have hnew := own_new own5
        have HX5 := cipup (And.intro hX5 hlx)
        have HL5 := cipup hL5
        have HC5 := cipup hC5
        have HR5 := cipup hR5
        have HW5 := cipup hW5
        have HA5 := cipup hA5
        have HB5 := cipup hB5
        have Hn5 := cipup hn5
        have hkg := HTV.out.kg
        have hnb := HTV.out.nb
        have hs5 := hG5.size
        obtain ⟨er, her⟩ : ∃ er, sErr has n = er := ⟨_, rfl⟩
        have HEr := cipup her
        rw [her]
        clear hG5 hC5 own5 hL5 hn5 hW5 hR5 hA5 hB5 hX5 hlx HTV HAV HBV her
        go_wp2_with fail
        refine (refCSeal_any gr 0 31 L kb ko kc key has n ai p ci ad bi q di bl w5 HR5.out hnb HA5.out hnA HB5.out hnB (by omega) (by omega) (by omega) hqm).mono ?_
        rintro e w6 ⟨v6, rfl, hG6, hR6, m6, own6⟩
        rw [HEr.out]
        rw [HX5.out.1] at own6
        obtain ⟨a7, c7, rfl, hB7, _, _, _⟩ := own_parts own6
        have hm6 : lx = m6 := by have := hB7.1; rw [HX5.out.2] at this; exact this
        subst hm6
        have hL6 := byt_but HL5.out hG6 (fun x o f e he => by have := hnew x (by rw [e]; rfl); omega)
        obtain ⟨n8, hn8⟩ : ∃ m, sNum has n = m := ⟨_, rfl⟩
        have hn8l : n8 ≤ 18446744073709551615 := by rw [← hn8]; exact sNum_le has n hnb
        have hC6 := HC5.out.but hG6 hgg
        rw [hn8] at hC6 hR6
        obtain ⟨key8, hk8⟩ : ∃ K, key = K := ⟨_, rfl⟩
        rw [hk8] at hC6 hR6
        have HT8 := cipup (show TL w gc gr _ kb ko kc key8 has n8 a6 lx c6 X5 w6 from ⟨hC6, hR6, hn8l, hL6, Hn5.out, by omega, hl5, hm5, fun x o f e => by have := hnew x (by rw [e]; rfl); constructor <;> omega, hkg, below_but HW5.out hG6 hwr⟩)
        have q1 := conv_bytes w6 a6 lx c6 X5 hL6
        have q2 := conv_bytes w6 a7 lx c7 X5 hB7
        have q3 := S_beq X5 X5
        clear hG6 hR6 own6 hB7 hL6 hC6 HL5 HC5 HR5 HW5 HA5 HB5 Hn5 HX5 hn8 hk8 HEr hnew

        have HT8x := HT8
        obtain ⟨U, hUd⟩ : ∃ U, w6.drew = U := ⟨_, rfl⟩
        have HUd := cipup hUd
        have hgu : Below w6.heap.size w6 U := by rw [← hUd]; exact (Below.refl _ _).drew
        have HTU := cipup (HT8.out.later hgu)
        have HLk := cipup (fun w' (hw' : Grows U w') => (HTU.out.later hw').looks)
        have hkk := S_beq key8 key8
        clear hUd hgu HT8 HT8x
        go_wp2_with fail
        refine wp_region_sched' (G := Grows) (by kernel_rfl) Grows.refl Grows.trans (by kernel_rfl) [(0, true), (1, true), (2, true), (3, true), (4, true), (5, true), (6, true), (7, true), (8, true), (9, true), (10, true), (11, true), (12, true), (13, true), (14, true), (15, true), (16, true), (17, true), (18, true), (19, true), (20, true)] rfl (by kernel_rfl) ?_
        intro KK hKK
        rw [HUd.out]
        iterate 21 (refine sched_take rfl (by rfl) (v := ?_) ?_ ?_; rotate_left; (intro w' hw'; obtain ⟨q1, q2, q3, q4, q5, q6, q7⟩ := HLk.out w' hw'; clear hw'; go_simp; with_reducible rfl); go_simp)
        refine sched_done hKK ?_
        clear hKK HLk HUd hkk
        go_wp2_with fail
        exact ⟨⟨k + 1, a6, lx, c6, by omega, rfl, by go_num, ⟨_, _, _, _, _, _, _, _, HTU.out⟩⟩, by simp [intOf]; omega⟩
      · skip
        by_cases h1 : kd = 1
        · subst h1
          go_wp2_with fail
          refine (cseal_any gc key has n ai p ci ad bi q di bl V HTV.out.c HTV.out.nb HAV.out hnA (by omega) (by omega) hpm HBV.out hnB (by omega) (by omega) hqm).mono ?_
          rintro e w5 ⟨v5, rfl, hG5, hC5, own5⟩
          have hW5 := below_but HTV.out.bel hG5 hwg
          have hR5 := rc_but HTV.out.r hG5 (fun e => hgg e.symm) HTV.out.kg
          have hA5 := HA.out.later hW5
          have hB5 := HB.out.later hW5
          have hXl := sOut_le key has n ad bl
          obtain ⟨X5, hX5⟩ : ∃ X, sOut key has n ad bl = X := ⟨_, rfl⟩
          obtain ⟨lx, hlx⟩ : ∃ lx, X5.length = lx := ⟨_, rfl⟩
          rw [hX5] at own5 hXl
          rw [hlx] at own5 hXl
          obtain ⟨a6, c6, rfl, hL5, hl5, hm5, hn5⟩ := own_parts own5
          have hnew := own_new own5
          have HX5 := cipup (And.intro hX5 hlx)
          have HL5 := cipup hL5
          have HC5 := cipup hC5
          have HR5 := cipup hR5
          have HW5 := cipup hW5
          have HA5 := cipup hA5
          have HB5 := cipup hB5
          have Hn5 := cipup hn5
          have hkg := HTV.out.kg
          have hnb := HTV.out.nb
          have hs5 := hG5.size
          obtain ⟨er, her⟩ : ∃ er, sErr has n = er := ⟨_, rfl⟩
          have HEr := cipup her
          rw [her]
          clear hG5 hC5 own5 hL5 hn5 hW5 hR5 hA5 hB5 hX5 hlx HTV HAV HBV her
          go_wp2_with fail
          refine (refCSeal_any gr 0 31 L kb ko kc key has n ai p ci ad bi q di bl w5 HR5.out hnb HA5.out hnA HB5.out hnB (by omega) (by omega) (by omega) hqm).mono ?_
          rintro e w6 ⟨v6, rfl, hG6, hR6, m6, own6⟩
          rw [HEr.out]
          rw [HX5.out.1] at own6
          obtain ⟨a7, c7, rfl, hB7, _, _, _⟩ := own_parts own6
          have hm6 : lx = m6 := by have := hB7.1; rw [HX5.out.2] at this; exact this
          subst hm6
          have hL6 := byt_but HL5.out hG6 (fun x o f e he => by have := hnew x (by rw [e]; rfl); omega)
          obtain ⟨n8, hn8⟩ : ∃ m, sNum has n = m := ⟨_, rfl⟩
          have hn8l : n8 ≤ 18446744073709551615 := by rw [← hn8]; exact sNum_le has n hnb
          have hC6 := HC5.out.but hG6 hgg
          rw [hn8] at hC6 hR6
          obtain ⟨key8, hk8⟩ : ∃ K, key = K := ⟨_, rfl⟩
          rw [hk8] at hC6 hR6
          have HT8 := cipup (show TL w gc gr _ kb ko kc key8 has n8 a6 lx c6 X5 w6 from ⟨hC6, hR6, hn8l, hL6, Hn5.out, by omega, hl5, hm5, fun x o f e => by have := hnew x (by rw [e]; rfl); constructor <;> omega, hkg, below_but HW5.out hG6 hwr⟩)
          have q1 := conv_bytes w6 a6 lx c6 X5 hL6
          have q2 := conv_bytes w6 a7 lx c7 X5 hB7
          have q3 := S_beq X5 X5
          clear hG6 hR6 own6 hB7 hL6 hC6 HL5 HC5 HR5 HW5 HA5 HB5 Hn5 HX5 hn8 hk8 HEr hnew

          have HT8x := HT8
          obtain ⟨U, hUd⟩ : ∃ U, w6.drew = U := ⟨_, rfl⟩
          have HUd := cipup hUd
          have hgu : Below w6.heap.size w6 U := by rw [← hUd]; exact (Below.refl _ _).drew
          have HTU := cipup (HT8.out.later hgu)
          have HLk := cipup (fun w' (hw' : Grows U w') => (HTU.out.later hw').looks)
          have hkk := S_beq key8 key8
          clear hUd hgu HT8 HT8x
          go_wp2_with fail
          refine wp_region_sched' (G := Grows) (by kernel_rfl) Grows.refl Grows.trans (by kernel_rfl) [(0, true), (1, true), (2, true), (3, true), (4, true), (5, true), (6, true), (7, true), (8, true), (9, true), (10, true), (11, true), (12, true), (13, true), (14, true), (15, true), (16, true), (17, true), (18, true), (19, true), (20, true)] rfl (by kernel_rfl) ?_
          intro KK hKK
          rw [HUd.out]
          iterate 21 (refine sched_take rfl (by rfl) (v := ?_) ?_ ?_; rotate_left; (intro w' hw'; obtain ⟨q1, q2, q3, q4, q5, q6, q7⟩ := HLk.out w' hw'; clear hw'; go_simp; with_reducible rfl); go_simp)
          refine sched_done hKK ?_
          clear hKK HLk HUd hkk
          go_wp2_with fail
          exact ⟨⟨k + 1, a6, lx, c6, by omega, rfl, by go_num, ⟨_, _, _, _, _, _, _, _, HTU.out⟩⟩, by simp [intOf]; omega⟩
        · skip
          by_cases h2 : kd = 2
          · subst h2
            have hll := HTV.out.l1
            have hlc := HTV.out.lc
            have hlm := HTV.out.lm
            have hlnil := HTV.out.ln
            go_wp2_with fail
            refine (copen_any gc key has n ai p ci ad a5 l5 c5 last V HTV.out.c HTV.out.nb HAV.out hnA (by omega) (by omega) hpm HTV.out.ls HTV.out.ln (by omega) HTV.out.lc HTV.out.lm).mono ?_
            rintro e w5 ⟨a6, c6, rfl, hG5, hC5, hB6, hnew, _⟩
            have hW5 := below_but HTV.out.bel hG5 hwg
            have hR5 := rc_but HTV.out.r hG5 (fun e => hgg e.symm) HTV.out.kg
            have hA5 := HA.out.later hW5
            have hB5 : Byt w5 a5 l5 last := byt_but HTV.out.ls hG5 (fun x o f e => (HTV.out.lg x o f e).1)
            have hL5 := byt_but HTV.out.ls hG5 (fun x o f e => (HTV.out.lg x o f e).1)
            have hnb5 := oNum_le key has n ad last HTV.out.nb
            obtain ⟨X5, hX5⟩ : ∃ X, oOut key has n ad last = X := ⟨_, rfl⟩
            obtain ⟨lx, hlx⟩ : ∃ lx, X5.length = lx := ⟨_, rfl⟩
            obtain ⟨er, her⟩ : ∃ er, oErr key has n ad last = er := ⟨_, rfl⟩
            obtain ⟨n8, hn8⟩ : ∃ m, oNum key has n ad last = m := ⟨_, rfl⟩
            rw [hX5, hlx] at hB6
            rw [hn8] at hC5 hnb5
            rw [hX5, hlx, her]
            have HE := cipup (And.intro hX5 (And.intro hlx (And.intro her hn8)))
            have HB6 := cipup hB6
            have HC5 := cipup hC5
            have HR5 := cipup hR5
            have HW5 := cipup hW5
            have HA5 := cipup hA5
            have HB5 := cipup hB5
            have HL5 := cipup hL5
            have HL0 := cipup (And.intro HTV.out.ln (And.intro HTV.out.l1 (And.intro HTV.out.lc (And.intro HTV.out.lm HTV.out.lg))))
            have hkg := HTV.out.kg
            have hnb := HTV.out.nb
            have hs5 := hG5.size
            clear hG5 hC5 hB6 hW5 hR5 hA5 hB5 hL5 hX5 hlx her hn8 HTV HAV HBV
            go_wp2_with fail
            refine (refCOpen_any gr 0 31 L kb ko kc key has n ai p ci ad a5 l5 c5 last w5 HR5.out hnb HA5.out hnA HB5.out hlnil (by omega) (by omega) hlc hlm).mono ?_
            rintro e w6 ⟨v6, rfl, hG6, hR6, m6, own6⟩
            rw [HE.out.2.2.1]
            rw [HE.out.1] at own6
            rw [HE.out.2.2.2] at hR6
            obtain ⟨a7, c7, rfl, hB7, _, _, _⟩ := own_parts own6
            have hm6 : lx = m6 := by have := hB7.1; rw [HE.out.2.1] at this; exact this
            subst hm6
            have hL6 := byt_but HL5.out hG6 (fun x o f e => (HL0.out.2.2.2.2 x o f e).2)
            have hB6 := byt_but HB6.out hG6 (fun x o f e he => by have := hnew x (by rw [e]; rfl); omega)
            have hC6 := HC5.out.but hG6 hgg
            obtain ⟨key8, hk8⟩ : ∃ K, key = K := ⟨_, rfl⟩
            rw [hk8] at hC6 hR6
            have HT8 := cipup (show TL w gc gr _ kb ko kc key8 has n8 a5 l5 c5 last w6 from ⟨hC6, hR6, hnb5, hL6, HL0.out.1, HL0.out.2.1, HL0.out.2.2.1, HL0.out.2.2.2.1, HL0.out.2.2.2.2, hkg, below_but HW5.out hG6 hwr⟩)
            have q1 := conv_bytes w6 a6 lx c6 X5 hB6
            have q2 := conv_bytes w6 a7 lx c7 X5 hB7
            have q3 := S_beq X5 X5
            clear hG6 hR6 own6 hB7 hL6 hB6 hC6 HL5 HC5 HR5 HW5 HA5 HB5 HB6 HE HL0 hk8 hnew hlnil

            have HT8x := HT8
            obtain ⟨U, hUd⟩ : ∃ U, w6.drew = U := ⟨_, rfl⟩
            have HUd := cipup hUd
            have hgu : Below w6.heap.size w6 U := by rw [← hUd]; exact (Below.refl _ _).drew
            have HTU := cipup (HT8.out.later hgu)
            have HLk := cipup (fun w' (hw' : Grows U w') => (HTU.out.later hw').looks)
            have hkk := S_beq key8 key8
            clear hUd hgu HT8 HT8x
            go_wp2_with fail
            refine wp_region_sched' (G := Grows) (by kernel_rfl) Grows.refl Grows.trans (by kernel_rfl) [(0, true), (1, true), (2, true), (3, true), (4, true), (5, true), (6, true), (7, true), (8, true), (9, true), (10, true), (11, true), (12, true), (13, true), (14, true), (15, true), (16, true), (17, true), (18, true), (19, true), (20, true)] rfl (by kernel_rfl) ?_
            intro KK hKK
            rw [HUd.out]
            iterate 21 (refine sched_take rfl (by rfl) (v := ?_) ?_ ?_; rotate_left; (intro w' hw'; obtain ⟨q1, q2, q3, q4, q5, q6, q7⟩ := HLk.out w' hw'; clear hw'; go_simp; with_reducible rfl); go_simp)
            refine sched_done hKK ?_
            clear hKK HLk HUd hkk
            go_wp2_with fail
            exact ⟨⟨k + 1, a5, l5, c5, by omega, rfl, by go_num, ⟨_, _, _, _, _, _, _, _, HTU.out⟩⟩, by simp [intOf]; omega⟩
          · skip
            by_cases h3 : kd = 3
            · subst h3
              have hll := HTV.out.l1
              have hlc := HTV.out.lc
              have hlm := HTV.out.lm
              have hlnil := HTV.out.ln
              go_wp2_with fail
              refine (copen_any gc key has n ai p ci ad bi q di bl V HTV.out.c HTV.out.nb HAV.out hnA (by omega) (by omega) hpm HBV.out hnB (by omega) (by omega) hqm).mono ?_
              rintro e w5 ⟨a6, c6, rfl, hG5, hC5, hB6, hnew, _⟩
              have hW5 := below_but HTV.out.bel hG5 hwg
              have hR5 := rc_but HTV.out.r hG5 (fun e => hgg e.symm) HTV.out.kg
              have hA5 := HA.out.later hW5
              have hB5 : Byt w5 bi q bl := HB.out.later hW5
              have hL5 := byt_but HTV.out.ls hG5 (fun x o f e => (HTV.out.lg x o f e).1)
              have hnb5 := oNum_le key has n ad bl HTV.out.nb
              obtain ⟨X5, hX5⟩ : ∃ X, oOut key has n ad bl = X := ⟨_, rfl⟩
              obtain ⟨lx, hlx⟩ : ∃ lx, X5.length = lx := ⟨_, rfl⟩
              obtain ⟨er, her⟩ : ∃ er, oErr key has n ad bl = er := ⟨_, rfl⟩
              obtain ⟨n8, hn8⟩ : ∃ m, oNum key has n ad bl = m := ⟨_, rfl⟩
              rw [hX5, hlx] at hB6
              rw [hn8] at hC5 hnb5
              rw [hX5, hlx, her]
              have HE := cipup (And.intro hX5 (And.intro hlx (And.intro her hn8)))
              have HB6 := cipup hB6
              have HC5 := cipup hC5
              have HR5 := cipup hR5
              have HW5 := cipup hW5
              have HA5 := cipup hA5
              have HB5 := cipup hB5
              have HL5 := cipup hL5
              have HL0 := cipup (And.intro HTV.out.ln (And.intro HTV.out.l1 (And.intro HTV.out.lc (And.intro HTV.out.lm HTV.out.lg))))
              have hkg := HTV.out.kg
              have hnb := HTV.out.nb
              have hs5 := hG5.size
              clear hG5 hC5 hB6 hW5 hR5 hA5 hB5 hL5 hX5 hlx her hn8 HTV HAV HBV
              go_wp2_with fail
              refine (refCOpen_any gr 0 31 L kb ko kc key has n ai p ci ad bi q di bl w5 HR5.out hnb HA5.out hnA HB5.out hnB (by omega) (by omega) (by omega) hqm).mono ?_
              rintro e w6 ⟨v6, rfl, hG6, hR6, m6, own6⟩
              rw [HE.out.2.2.1]
              rw [HE.out.1] at own6
              rw [HE.out.2.2.2] at hR6
              obtain ⟨a7, c7, rfl, hB7, _, _, _⟩ := own_parts own6
              have hm6 : lx = m6 := by have := hB7.1; rw [HE.out.2.1] at this; exact this
              subst hm6
              have hL6 := byt_but HL5.out hG6 (fun x o f e => (HL0.out.2.2.2.2 x o f e).2)
              have hB6 := byt_but HB6.out hG6 (fun x o f e he => by have := hnew x (by rw [e]; rfl); omega)
              have hC6 := HC5.out.but hG6 hgg
              obtain ⟨key8, hk8⟩ : ∃ K, key = K := ⟨_, rfl⟩
              rw [hk8] at hC6 hR6
              have HT8 := cipup (show TL w gc gr _ kb ko kc key8 has n8 a5 l5 c5 last w6 from ⟨hC6, hR6, hnb5, hL6, HL0.out.1, HL0.out.2.1, HL0.out.2.2.1, HL0.out.2.2.2.1, HL0.out.2.2.2.2, hkg, below_but HW5.out hG6 hwr⟩)
              have q1 := conv_bytes w6 a6 lx c6 X5 hB6
              have q2 := conv_bytes w6 a7 lx c7 X5 hB7
              have q3 := S_beq X5 X5
              clear hG6 hR6 own6 hB7 hL6 hB6 hC6 HL5 HC5 HR5 HW5 HA5 HB5 HB6 HE HL0 hk8 hnew hlnil

              have HT8x := HT8
              obtain ⟨U, hUd⟩ : ∃ U, w6.drew = U := ⟨_, rfl⟩
              have HUd := cipup hUd
              have hgu : Below w6.heap.size w6 U := by rw [← hUd]; exact (Below.refl _ _).drew
              have HTU := cipup (HT8.out.later hgu)
              have HLk := cipup (fun w' (hw' : Grows U w') => (HTU.out.later hw').looks)
              have hkk := S_beq key8 key8
              clear hUd hgu HT8 HT8x
              go_wp2_with fail
              refine wp_region_sched' (G := Grows) (by kernel_rfl) Grows.refl Grows.trans (by kernel_rfl) [(0, true), (1, true), (2, true), (3, true), (4, true), (5, true), (6, true), (7, true), (8, true), (9, true), (10, true), (11, true), (12, true), (13, true), (14, true), (15, true), (16, true), (17, true), (18, true), (19, true), (20, true)] rfl (by kernel_rfl) ?_
              intro KK hKK
              rw [HUd.out]
              iterate 21 (refine sched_take rfl (by rfl) (v := ?_) ?_ ?_; rotate_left; (intro w' hw'; obtain ⟨q1, q2, q3, q4, q5, q6, q7⟩ := HLk.out w' hw'; clear hw'; go_simp; with_reducible rfl); go_simp)
              refine sched_done hKK ?_
              clear hKK HLk HUd hkk
              go_wp2_with fail
              exact ⟨⟨k + 1, a5, l5, c5, by omega, rfl, by go_num, ⟨_, _, _, _, _, _, _, _, HTU.out⟩⟩, by simp [intOf]; omega⟩
            · skip
              by_cases h4 : kd = 4
              · subst h4
                go_wp2_with fail
                refine (crekey_any gc key has n V HTV.out.c).mono ?_
                rintro e w5 ⟨⟨v5, rfl⟩, hG5, hC5⟩
                have hW5 := below_but HTV.out.bel hG5 hwg
                have hR5 := rc_but HTV.out.r hG5 (fun e => hgg e.symm) HTV.out.kg
                have hL5 := byt_but HTV.out.ls hG5 (fun x o f e => (HTV.out.lg x o f e).1)
                obtain ⟨key8, hk8⟩ : ∃ K, rekB key has = K := ⟨_, rfl⟩
                rw [hk8] at hC5
                have HK8 := cipup hk8
                have HC5 := cipup hC5
                have HR5 := cipup hR5
                have HW5 := cipup hW5
                have HL5 := cipup hL5
                have HL0 := cipup (And.intro HTV.out.ln (And.intro HTV.out.l1 (And.intro HTV.out.lc (And.intro HTV.out.lm HTV.out.lg))))
                have hkg := HTV.out.kg
                have hnb := HTV.out.nb
                have hs5 := hG5.size
                clear hG5 hC5 hW5 hR5 hL5 hk8 HTV HAV HBV
                go_wp2_with fail
                refine (refCRekey_any gr 0 31 L kb ko kc key has n w5 HR5.out).mono ?_
                rintro e w6 ⟨⟨v6, rfl⟩, hG6, kb', ko', kc', L', hR6, _, hk6⟩
                rw [HK8.out] at hR6
                have hL6 := byt_but HL5.out hG6 (fun x o f e => (HL0.out.2.2.2.2 x o f e).2)
                have hC6 := HC5.out.but hG6 hgg
                have hkg' : kb' ≠ gc := by
                  rcases hk6 with e | e
                  · rw [e]; exact hkg
                  · omega
                have HT8 := cipup (show TL w gc gr L' kb' ko' kc' key8 has n a5 l5 c5 last w6 from ⟨hC6, hR6, hnb, hL6, HL0.out.1, HL0.out.2.1, HL0.out.2.2.1, HL0.out.2.2.2.1, HL0.out.2.2.2.2, hkg', below_but HW5.out hG6 hwr⟩)
                clear hG6 hR6 hL6 hC6 HL5 HC5 HR5 HW5 HL0 HK8 hk6 hkg'

                have HT8x := HT8
                obtain ⟨U, hUd⟩ : ∃ U, w6.drew = U := ⟨_, rfl⟩
                have HUd := cipup hUd
                have hgu : Below w6.heap.size w6 U := by rw [← hUd]; exact (Below.refl _ _).drew
                have HTU := cipup (HT8.out.later hgu)
                have HLk := cipup (fun w' (hw' : Grows U w') => (HTU.out.later hw').looks)
                have hkk := S_beq key8 key8
                clear hUd hgu HT8 HT8x
                go_wp2_with fail
                refine wp_region_sched' (G := Grows) (by kernel_rfl) Grows.refl Grows.trans (by kernel_rfl) [(0, true), (1, true), (2, true), (3, true), (4, true), (5, true), (6, true), (7, true), (8, true), (9, true), (10, true), (11, true), (12, true), (13, true), (14, true), (15, true), (16, true), (17, true), (18, true), (19, true), (20, true)] rfl (by kernel_rfl) ?_
                intro KK hKK
                rw [HUd.out]
                iterate 21 (refine sched_take rfl (by rfl) (v := ?_) ?_ ?_; rotate_left; (intro w' hw'; obtain ⟨q1, q2, q3, q4, q5, q6, q7⟩ := HLk.out w' hw'; clear hw'; go_simp; with_reducible rfl); go_simp)
                refine sched_done hKK ?_
                clear hKK HLk HUd hkk
                go_wp2_with fail
                exact ⟨⟨k + 1, a5, l5, c5, by omega, rfl, by go_num, ⟨_, _, _, _, _, _, _, _, HTU.out⟩⟩, by simp [intOf]; omega⟩
              · skip
                by_cases h5 : kd = 5
                · subst h5
                  have hT := HTV.out
                  obtain ⟨n1, n2⟩ := hT.c.num
                  have n3 := HN3.out V hT.bel
                  have hC5 := hT.c.setN nn
                  have hG5 : V.grownBy (V.setCell ⟨gc, 33, none⟩ (.int .u64 (nn : Int))) (some gc) := But.setCell V gc 33 _
                  have hR5 := rc_but hT.r hG5 (fun e => hgg e.symm) hT.kg
                  have hW5 := below_but hT.bel hG5 hwg
                  have n4 := HN3.out _ hW5
                  have hL5 := byt_but hT.ls hG5 (fun x o f e => (hT.lg x o f e).1)
                  obtain ⟨V5, hV5⟩ : ∃ V5, V.setCell ⟨gc, 33, none⟩ (.int .u64 (nn : Int)) = V5 := ⟨_, rfl⟩
                  rw [hV5] at hC5 hR5 hW5 n4 hL5 hG5
                  obtain ⟨_, _, k3, k4, _⟩ := hR5.cells
                  have k3' : V5.cell? ⟨gr, 2, none⟩ = some (.int .u64 (n : Int)) := k3
                  have k4' : V5.frozen? ⟨gr, 2, none⟩ = false := k4
                  have hR6 : RC (V5.setCell ⟨gr, 2, none⟩ (.int .u64 (nn : Int))) gr 0 31 _ kb ko kc key has nn := hR5.setN nn
                  have hG6 : V5.grownBy (V5.setCell ⟨gr, 2, none⟩ (.int .u64 (nn : Int))) (some gr) := But.setCell V5 gr 2 _
                  have hC6 := hC5.but hG6 hgg
                  have hW6 := below_but hW5 hG6 hwr
                  have hL6 := byt_but hL5 hG6 (fun x o f e => (hT.lg x o f e).2)
                  obtain ⟨V6, hV6⟩ : ∃ V6, V5.setCell ⟨gr, 2, none⟩ (.int .u64 (nn : Int)) = V6 := ⟨_, rfl⟩
                  rw [hV6] at hR6 hC6 hW6 hL6
                  obtain ⟨key8, hk8⟩ : ∃ K, key = K := ⟨_, rfl⟩
                  rw [hk8] at hC6 hR6
                  have HT8 := cipup (show TL w gc gr _ kb ko kc key8 has nn a5 l5 c5 last V6 from ⟨hC6, hR6, hnn, hL6, hT.ln, hT.l1, hT.lc, hT.lm, hT.lg, hT.kg, hW6⟩)
                  have HV5 := cipup hV5
                  have HV6 := cipup hV6
                  clear hT hC5 hG5 hR5 hW5 hL5 hR6 hG6 hC6 hW6 hL6 hk8 HTV HAV HBV k3 k4

                  have HT8x := HT8
                  obtain ⟨U, hUd⟩ : ∃ U, V6.drew = U := ⟨_, rfl⟩
                  have HUd := cipup hUd
                  have hgu : Below V6.heap.size V6 U := by rw [← hUd]; exact (Below.refl _ _).drew
                  have HTU := cipup (HT8.out.later hgu)
                  have HLk := cipup (fun w' (hw' : Grows U w') => (HTU.out.later hw').looks)
                  have hkk := S_beq key8 key8
                  clear hUd hgu HT8 HT8x
                  go_wp2_with fail
                  refine wp_region_sched' (G := Grows) (by kernel_rfl) Grows.refl Grows.trans (by kernel_rfl) [(0, true), (1, true), (2, true), (3, true), (4, true), (5, true), (6, true), (7, true), (8, true), (9, true), (10, true), (11, true), (12, true), (13, true), (14, true), (15, true), (16, true), (17, true), (18, true), (19, true), (20, true)] rfl (by kernel_rfl) ?_
                  intro KK hKK
                  rw [HUd.out]
                  iterate 21 (refine sched_take rfl (by rfl) (v := ?_) ?_ ?_; rotate_left; (intro w' hw'; obtain ⟨q1, q2, q3, q4, q5, q6, q7⟩ := HLk.out w' hw'; clear hw'; go_simp; with_reducible rfl); go_simp)
                  refine sched_done hKK ?_
                  clear hKK HLk HUd hkk
                  go_wp2_with fail
                  exact ⟨⟨k + 1, a5, l5, c5, by omega, rfl, by go_num, ⟨_, _, _, _, _, _, _, _, HTU.out⟩⟩, by simp [intOf]; omega⟩
                · skip
                  obtain ⟨key8, hk8⟩ : ∃ K, key = K := ⟨_, rfl⟩
                  have HT8 := HTV
                  rw [hk8] at HT8
                  clear HTV HAV HBV hk8

                  have HT8x := HT8
                  obtain ⟨U, hUd⟩ : ∃ U, V.drew = U := ⟨_, rfl⟩
                  have HUd := cipup hUd
                  have hgu : Below V.heap.size V U := by rw [← hUd]; exact (Below.refl _ _).drew
                  have HTU := cipup (HT8.out.later hgu)
                  have HLk := cipup (fun w' (hw' : Grows U w') => (HTU.out.later hw').looks)
                  have hkk := S_beq key8 key8
                  clear hUd hgu HT8 HT8x
                  go_wp2_with fail
                  refine wp_region_sched' (G := Grows) (by kernel_rfl) Grows.refl Grows.trans (by kernel_rfl) [(0, true), (1, true), (2, true), (3, true), (4, true), (5, true), (6, true), (7, true), (8, true), (9, true), (10, true), (11, true), (12, true), (13, true), (14, true), (15, true), (16, true), (17, true), (18, true), (19, true), (20, true)] rfl (by kernel_rfl) ?_
                  intro KK hKK
                  rw [HUd.out]
                  iterate 21 (refine sched_take rfl (by rfl) (v := ?_) ?_ ?_; rotate_left; (intro w' hw'; obtain ⟨q1, q2, q3, q4, q5, q6, q7⟩ := HLk.out w' hw'; clear hw'; go_simp; with_reducible rfl); go_simp)
                  refine sched_done hKK ?_
                  clear hKK HLk HUd hkk
                  go_wp2_with fail
                  exact ⟨⟨k + 1, a5, l5, c5, by omega, rfl, by go_num, ⟨_, _, _, _, _, _, _, _, HTU.out⟩⟩, by simp [intOf]; omega⟩
    · by_cases hc1 : k < len1
      · have i1 : (k : Int) < (len1 : Int) := by omega
        have i2 : ¬ (k : Int) < 20 := by omega
        obtain ⟨L, kb, ko, kc, key, has, n, last, hT⟩ := HT.out
        have HBe := cipup hT.bel
        clear hT HT
        go_wp2
        go_ret
        exact ⟨rfl, HBe.out⟩
      · have i1 : ¬ (k : Int) < (len1 : Int) := by omega
        obtain ⟨L, kb, ko, kc, key, has, n, last, hT⟩ := HT.out
        have HBe := cipup hT.bel
        clear hT HT
        go_wp2
        go_ret
        exact ⟨rfl, HBe.out⟩
end Go.Proofs.YtdancpcnjklifaaDoor.cipherTells
