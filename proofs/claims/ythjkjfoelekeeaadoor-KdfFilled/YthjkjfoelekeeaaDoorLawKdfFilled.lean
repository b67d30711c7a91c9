/- KdfFilled: 0s behind a key do not count, up to 64 bytes. For every two rows of bytes and number, where the program's tables are as its text lays them. -/
import Derived.Test.YthjkjfoelekeeaaDoorKdfShown
import Derived.Test.YthjkjfoelekeeaaDoorAppW
import Derived.Test.YthjkjfoelekeeaaDoorAppZ
namespace Go.Proofs.YthjkjfoelekeeaaDoor
theorem kpad_zeros (key : List UInt8) (q : Nat) (h : key.length + q ≤ 64) : kpad (key ++ List.replicate q 0) = kpad key := by
  have e1 : kshort (key ++ List.replicate q 0) = key ++ List.replicate q 0 := by unfold kshort; rw [if_neg (by simp; omega)]
  have e2 : kshort key = key := by unfold kshort; rw [if_neg (by omega)]
  unfold kpad
  rw [e1, e2, List.append_assoc, List.replicate_append_replicate]
  congr 2
  simp
  omega
theorem macB_zeros (key b : List UInt8) (q : Nat) (h : key.length + q ≤ 64) : macB (key ++ List.replicate q 0) b = macB key b := by
  unfold macB kout kin
  rw [kpad_zeros key q h]
theorem wpList_append_if {P : Program} {w : World} {ops : Array Oper} {rest : List Oper} {o : Oper} {a : Act} {Q : Exit → Act → World → Prop} (hw : Region.wanted o (yielded ops a.tmps) = true) (s x : Operand) (t u : TypeId)
    (ho : o.op = .call { callee := .builtin .append, args := #[s, x], argTypes := #[t, u] }) (vs vx v' : Value) (w2 : World) (hs : a.eval s = vs) (hx : a.eval x = vx)
    (hr : (Builtin.append_ #[t, u] o.type #[vs, vx]).run P w = .ok v' w2) (h : wpList P ops Q rest (a.put o.dst v') w2) : wpList P ops Q (o :: rest) a w := by
  refine wpList_step fun K hK => ?_
  simp only [hw, if_true]
  unfold Oper.wp execOp
  simp only [ho, resolve, invoke, builtin, Sem.run_bind, Sem.run_pure, Result.andThen_ok, List.map_toArray, List.map_cons, List.map_nil, hs, hx, hr]
  exact hK _ _ h
/-- Nothing made, appended. -/
theorem append_zeros0 (w : World) (base g n cap : Nat) (xs : List UInt8) (hown : w.ownsRow base 5 1 (.slice (some ⟨g, 0, none⟩) n cap) n (xs.map bv)) :
    (Builtin.append_ #[22, 3] 22 #[.slice (some ⟨g, 0, none⟩) n cap, .int .i64 0]).run Tryd.prog w = .ok (.slice (some ⟨g, 0, none⟩) n cap) w := by
  obtain ⟨i0, hi, hz0, hz1, hz2⟩ := info_parts Tryd.infoU8
  rcases hown.2 with ⟨e, _⟩ | ⟨g', cap', cur, e, _, _, hnc, _⟩
  · cases e
  · cases e
    have hw : IntKind.i64.wrap 0 = 0 := rfl
    simp [Builtin.append_, run_underlying Tryd.underlying22, run_underlying Tryd.underlying3, sizeOf, typeInfo, zeroValue, hi, hz0, hz2, asInt, asIntOf, hw, hnc, storeCells]
end Go.Proofs.YthjkjfoelekeeaaDoor
namespace Go.Proofs.YthjkjfoelekeeaaDoor.kdfFilled
open Go.ChangeShapes Go.WideShapes Go.ChangeAt Go.RowKit
set_option linter.unusedVariables false

theorem own_some {w : World} {base : Nat} {v : Value} {n : Nat} {xs : List Value} (h : w.ownsRow base 5 1 v n xs) (hs : v.ownBlock ≠ none) : ∃ g cap, v = .slice (some ⟨g, 0, none⟩) n cap := by
  rcases h.2 with ⟨rfl, _⟩ | ⟨g, cap, cur, e, _⟩
  · exact absurd rfl hs
  · exact ⟨g, cap, e⟩

set_option maxHeartbeats 4000000 in
set_option maxRecDepth 100000 in
theorem walk (a0 : Option Addr) (len0 cap0 : Nat) (z0 : List Int) (a1 : Int) (a2 : Option Addr) (len2 cap2 : Nat) (z2 : List Int) (w : World) (w0 : IsRow .u8 w a0 len0 cap0 z0) (w1 : (Lit.int .i64 a1).wf = true) (w2 : IsRow .u8 w a2 len2 cap2 z2) (htab : Tab w) :
    Calls Tryd.prog 5 #[.slice a0 len0 cap0, .int .i64 a1, .slice a2 len2 cap2] w fun e w' => e = .returned (.bool true) ∧ Below w.heap.size w w' := by
  have hnil0 := krow_nil w0
  obtain ⟨ad, la, hnE20, hn1a, hn2a, hnca, hncma, hBma⟩ := cut_row w0 64
  have hnEa : (if (64 : Int) < (len0 : Int) then (64 : Int) else (len0 : Int)) = (la : Int) := hnE20
  have hlma := hBma.1
  have HB0a : Hid (Byt w a0 la ad) := hBma
  clear hnE20 w0 hBma
  have hnil2 := krow_nil w2
  obtain ⟨m, n, hnE30, hn1b, hn2b, hncb, hncmb, hBmb⟩ := cut_row w2 200
  have hnEb : (if (200 : Int) < (len2 : Int) then (200 : Int) else (len2 : Int)) = (n : Int) := hnE30
  have hlmb := hBmb.1
  have HB0b : Hid (Byt w a2 n m) := hBmb
  clear hnE30 w2 hBmb w1
  obtain ⟨q, hq0, hqn⟩ := cut16 a1 (64 - la)
  have hqe : (((64 - la : Nat) : Int) + 1) = 65 - (la : Int) := by omega
  rw [hqe] at hq0
  have hq : (bits .and .i64 a1 65535).tmod (65 - (la : Int)) = (q : Int) := hq0
  have hd0 : ¬ (65 : Int) - (la : Int) = 0 := by omega
  clear hq0 hqe
  have HTab : Hid (Tab w) := htab
  clear htab
  go_enter Tryd.func5, Tryd.ntmps5
  go_wp2_with fail
  refine (kdfShown_any _ HTab.out).mono ?_
  rintro e w4 ⟨rfl, hb4⟩
  have HW4 : Hid (Below w.heap.size w w4) := hb4
  clear hb4
  -- the key, and 0s behind it
  have hbA : Below w.heap.size w (w4.alloc (.cells #[] 5)) := HW4.out.alloc HW4.out.size _
  have hown1 : (w4.alloc (.cells #[] 5)).ownsRow w4.heap.size 5 1 (.slice (some ⟨w4.heap.size, 0, none⟩) 0 0) 0 (([] : List UInt8).map bv) := ⟨rfl, .inr ⟨w4.heap.size, 0, #[], rfl, Nat.le_refl _, heap_alloc_new w4 _, Nat.le_refl _, Nat.zero_le _, rfl, rfl⟩⟩
  obtain ⟨v5, w5, hr5, ho5, hg5, hw5⟩ := append_where (w4.alloc (.cells #[] 5)) w4.heap.size _ 0 [] hown1 a0 la cap0 ad (HB0a.out.later hbA) hnil0 (by rw [World.size_alloc]; omega) (by omega)
  rw [Nat.zero_add, List.nil_append] at ho5
  obtain ⟨g5, c5, rfl⟩ := own_some ho5 (by rcases hw5 with h | h <;> rw [h] <;> simp [Value.ownBlock])
  have HA5 : Hid ((Builtin.append_ #[22, 22] 22 #[.slice (some ⟨w4.heap.size, 0, none⟩) 0 0, .slice a0 la cap0]).run Tryd.prog (w4.alloc (.cells #[] 5)) = .ok (.slice (some ⟨g5, 0, none⟩) la c5) w5) := hr5
  have hbB : Below w4.heap.size w4 w5 := ((Below.refl _ _).alloc (Nat.le_refl _) _).trans ⟨hg5.os, hg5.tape, hg5.output, hg5.size, fun k hk => hg5.block k (by rw [World.size_alloc]; omega) (fun e => by
    have e' : k = w4.heap.size := by simpa [Value.ownBlock] using e
    omega)⟩
  have hg5w : w4.heap.size ≤ g5 := (own_base ho5 g5 rfl).1
  obtain ⟨v6, w6, hr6, ho6, hg6⟩ : ∃ v' w', (Builtin.append_ #[22, 3] 22 #[.slice (some ⟨g5, 0, none⟩) la c5, .int .i64 (q : Int)]).run Tryd.prog w5 = .ok v' w' ∧ w'.ownsRow w4.heap.size 5 1 v' (la + q) ((ad ++ List.replicate q 0).map bv) ∧ w5.grownBy w' (some g5) := by
    by_cases h0 : q = 0
    · subst h0
      refine ⟨_, w5, append_zeros0 w5 w4.heap.size g5 la c5 ad ho5, by simpa using ho5, grownBy_refl _ _⟩
    · exact append_zeros w5 w4.heap.size g5 la c5 ad q ho5 (by omega) (by omega) hbB.size
  have HA6 : Hid ((Builtin.append_ #[22, 3] 22 #[.slice (some ⟨g5, 0, none⟩) la c5, .int .i64 (q : Int)]).run Tryd.prog w5 = .ok v6 w6) := hr6
  obtain ⟨a6, c6, rfl, hB6, hc6, hc6m, hn6⟩ := own_parts ho6
  have HB6 : Hid (Byt w6 a6 (la + q) (ad ++ List.replicate q 0)) := hB6
  have hbC : Below w4.heap.size w4 w6 := hbB.trans ⟨hg6.os, hg6.tape, hg6.output, hg6.size, fun k hk => hg6.block k (by have := hbB.size; omega) (fun e => by cases e; omega)⟩
  have HW6 : Hid (Below w.heap.size w w6) := HW4.out.trans (hbC.mono HW4.out.size)
  clear hr5 hr6 ho5 ho6 hg5 hg6 hbB hbC hB6 hbA hown1 hw5
  obtain ⟨L, hL⟩ : ∃ L, la + q = L := ⟨_, rfl⟩
  have hLb : L ≤ 64 := by omega
  obtain ⟨X, hX⟩ : ∃ X, ad ++ List.replicate q 0 = X := ⟨_, rfl⟩
  have HMz : Hid (macB X m = macB ad m) := by rw [← hX]; exact macB_zeros ad m q (by omega)
  rw [hL, hX] at HB6
  rw [hL] at HA6 hc6
  clear hX hL
  go_wp2_with (first | (refine wpList_append_if rfl (.tmp 27) (.tmp 28) 22 22 rfl _ _ _ _ rfl rfl HA5.out ?_) | (refine wpList_append_if rfl (.tmp 29) (.tmp 30) 22 3 rfl _ _ _ _ rfl rfl HA6.out ?_) | fail)
  refine (mac_any a6 L c6 X a2 n cap2 m w6 HB6.out hn6 (by omega) hc6 hc6m (HB0b.out.later HW6.out) hnil2 (by omega) (by omega) hncmb (HTab.out.later HW6.out)).mono ?_
  rintro e w7 ⟨rfl, hb7⟩
  rw [HMz.out]
  have HW7 : Hid (Below w.heap.size w w7) := HW6.out.trans (hb7.mono HW6.out.size)
  have hB := macB_length ad m
  obtain ⟨B, hBe⟩ : ∃ B, macB ad m = B := ⟨_, rfl⟩
  rw [hBe] at hB ⊢
  have HBe : Hid (macB ad m = B) := hBe
  clear hb7 HW6 HB6 HA5 HA6 hBe
  go_wp2_with fail
  refine (mac_any a0 la cap0 ad a2 n cap2 m w7 (HB0a.out.later HW7.out) hnil0 (by omega) (by omega) hncma (HB0b.out.later HW7.out) hnil2 (by omega) (by omega) hncmb (HTab.out.later HW7.out)).mono ?_
  rintro e w8 ⟨rfl, hb8⟩
  rw [HBe.out]
  have HW8 : Hid (Below w.heap.size w w8) := HW7.out.trans (hb8.mono HW7.out.size)
  clear hb8 HW7
  have q8 := arr_eq w8 25 32 B B hB hB Tryd.underlying25
  rw [decide_eq_true rfl] at q8
  go_wp2
  go_ret
  exact ⟨rfl, HW8.out⟩
end Go.Proofs.YthjkjfoelekeeaaDoor.kdfFilled
