/- CipherPlain: without a key all is as it is, and no number counts. For every two rows of bytes, and number, where the program's tables are as its text lays them. -/
import Derived.Test.YtdancpcnjklifaaDoorCipShown
import Derived.Test.YtdancpcnjklifaaDoorCipCq
import Derived.Test.YtdancpcnjklifaaDoorCipF
namespace Go.Proofs.YtdancpcnjklifaaDoor.cipherPlain
open Go.ChangeShapes Go.WideShapes Go.ChangeAt Go.RowKit
set_option linter.unusedVariables false
set_option maxRecDepth 100000

theorem add1 (c : UInt8) : ∃ d : UInt8, IntKind.u8.wrap ((c.toNat : Int) + 1) = (d.toNat : Int) := by
  refine ⟨UInt8.ofNat ((c.toNat + 1) % 256), ?_⟩
  rw [UInt8.toNat_ofNat', IntKind.wrap_u8]
  omega
set_option maxHeartbeats 4000000 in
theorem walk (a0 : Option Addr) (len0 cap0 : Nat) (z0 : List Int) (a1 : Option Addr) (len1 cap1 : Nat) (z1 : List Int) (a2 : Int) (w : World) (w0 : IsRow .u8 w a0 len0 cap0 z0) (w1 : IsRow .u8 w a1 len1 cap1 z1) (w2 : (Lit.int .u64 a2).wf = true) (htab : Tab w) :
    Calls Tryd.prog 6 #[.slice a0 len0 cap0, .slice a1 len1 cap1, .int .u64 a2] w fun e w' => e = .returned (.bool true) ∧ Below w.heap.size w w' := by
  obtain ⟨n, rfl, hn⟩ := u64_of a2 w2
  have hnl : n ≤ 18446744073709551615 := by omega
  have hnil0 := cip_nil w0
  obtain ⟨ad, la, hnE0, hn1a, hn2a, hnca, hncma, hBma⟩ := cut_row w0 100
  have hnEa : (if (100 : Int) < (len0 : Int) then (100 : Int) else (len0 : Int)) = (la : Int) := hnE0
  have hlma := hBma.1
  have HA0 : Hid (Byt w a0 la ad) := hBma
  have hnil1 := cip_nil w1
  obtain ⟨m, ln, hnE1, hn1b, hn2b, hncb, hncmb, hBmb⟩ := cut_row w1 100
  have hnEb : (if (100 : Int) < (len1 : Int) then (100 : Int) else (len1 : Int)) = (ln : Int) := hnE1
  have hlm := hBmb.1
  have HB0 : Hid (Byt w a1 ln m) := hBmb
  obtain ⟨Z, hZ⟩ : ∃ Z, List.replicate 32 (0 : UInt8) = Z := ⟨_, rfl⟩
  have hZl : Z.length = 32 := by rw [← hZ]; rfl
  have HZ := cipup hZ
  have HBm : Hid (∀ {ops : Array Oper} {rest : List Oper} {o : Oper} {a : Act} {w : World} {Q : Exit → Act → World → Prop} (hg : Region.wanted o (yielded ops a.tmps) = true) (x : Operand) (ho : o.op = .build 26 #[(2, x)]) (hx : a.eval x = .int .u64 (n : Int)) (h : wpList Tryd.prog ops Q rest (a.put o.dst (.agg (CiV Z false n).toArray)) w), wpList Tryd.prog ops Q (o :: rest) a w) := by
    rw [← HZ.out]
    exact fun hg x ho hx h => wpList_ci1m n hg x ho hx h
  have HTab := cipup htab
  clear hnE0 hnE1 w0 w1 w2 hBma hBmb htab hn hZ
  go_enter Tryd.func6, Tryd.ntmps6
  go_wp2_with fail
  refine (cipShown_any _ HTab.out).mono ?_
  rintro e w4 ⟨rfl, hw4⟩
  obtain ⟨W1, hst1, hC1, hb1, hw1, hs1⟩ := ci_place w w4 hw4 Z false n hZl
  have hlen : (CiV Z false n).length = 34 := by rw [CiV_length, hZl]
  have hwg : w.heap.size ≤ w4.heap.size := hw4.size
  have hgs : w4.heap.size < W1.heap.size := by omega
  have HC1 := cipup hC1
  have HW1 := cipup hw1
  have HBd : Hid (∀ {ops : Array Oper} {rest : List Oper} {o : Oper} {a : Act} {w : World} {Q : Exit → Act → World → Prop} (hg : o.guard = none) (x : Operand) (ho : o.op = .build 26 #[(2, x)]) (hx : a.eval x = .int .u64 (n : Int)) (h : wpList Tryd.prog ops Q rest (a.put o.dst (.agg (CiV Z false n).toArray)) w), wpList Tryd.prog ops Q (o :: rest) a w) := by
    rw [← HZ.out]
    exact fun hg x ho hx h => wpList_ci1 n hg x ho hx h
  simp only [ciZ] at hst1
  clear hC1 hb1 hw1 hs1 hw4
  go_wp2_with (first | refine HBd.out rfl (.tmp 25) rfl rfl ?_ | fail)
  clear hst1 HBd
  generalize w4.heap.size = g at *
  refine (cseal_any g Z false n a0 la cap0 ad a1 ln cap1 m W1 HC1.out hnl (HA0.out.later HW1.out) hnil0 (by omega) (by omega) hncma (HB0.out.later HW1.out) hnil1 (by omega) (by omega) hncmb).mono ?_
  rintro e w5 ⟨v5, rfl, hG5, hC5, own5⟩
  have e1 : sOut Z false n ad m = m := rfl
  have e2 : sNum false n = n := rfl
  have e3 : sErr false n = 0 := rfl
  rw [e1, hlm] at own5
  rw [e2] at hC5
  rw [e3]
  obtain ⟨a5, c5, rfl, hs5, hk5⟩ := Seg.ofOwn' own5
  have HS5 := cipup hs5
  have HK5 := cipup hk5
  have HC5 := cipup hC5
  have HW5 := cipup (below_but HW1.out hG5 hwg)
  have hsz5 : W1.heap.size ≤ w5.heap.size := hG5.size
  have hlt5 : ∀ j, blockOf a5 = some j → j < w5.heap.size := fun j hj => (own_base own5 j (by cases a5 with | none => cases hj | some x => exact hj)).2
  have HL5 := cipup hlt5
  clear hG5 hC5 own5 hs5 hk5 e1 e2 e3 HC1 HW1 hlt5
  go_wp2_with fail
  refine (copen_any g Z false n a0 la cap0 ad a1 ln cap1 m w5 HC5.out hnl (HA0.out.later HW5.out) hnil0 (by omega) (by omega) hncma (HB0.out.later HW5.out) hnil1 (by omega) (by omega) hncmb).mono ?_
  rintro e w6 ⟨a6, c6, rfl, hG6, hC6, hB6, hk6, _⟩
  have e1 : oOut Z false n ad m = m := rfl
  have e2 : oNum Z false n ad m = n := rfl
  have e3 : oErr Z false n ad m = 0 := rfl
  rw [e1, hlm] at hB6 ⊢
  rw [e2] at hC6
  rw [e3]
  have hS6 : Seg w6 5 a5 ln c5 (m.map bv) := HS5.out.kept fun j hj => hG6.block j (HL5.out j hj) (fun e => by
    have := HK5.out j hj
    cases e
    omega)
  have HS6 := cipup hS6
  have HB6 := cipup hB6
  have HK6 := cipup hk6
  have HC6 := cipup hC6
  have HW6 := cipup (below_but HW5.out hG6 hwg)
  have hsz6 : w5.heap.size ≤ w6.heap.size := hG6.size
  clear hG6 hC6 hB6 hk6 hS6 e1 e2 e3 HC5 HW5 HS5
  go_wp2_with fail
  refine (crekey_any g Z false n w6 HC6.out).mono ?_
  rintro e w7 ⟨⟨v7, rfl⟩, hG7, hC7⟩
  have hS7 : Seg w7 5 a5 ln c5 (m.map bv) := HS6.out.kept fun j hj => hG7.block j (Nat.lt_of_lt_of_le (HL5.out j hj) hsz6) (fun e => by
    have := HK5.out j hj
    cases e
    omega)
  have HS7 := cipup hS7
  have HB7 := cipup (byt_new HB6.out hG7 HK6.out (show g < w5.heap.size by omega))
  have HC7 : Hid (CiIs w7 g Z false n) := hC7
  have HW7 := cipup (below_but HW6.out hG7 hwg)
  have hsz7 : w6.heap.size ≤ w7.heap.size := hG7.size
  clear hG7 hC7 hS7 HC6 HW6 HS6 HB6
  go_wp2_with fail
  go_loopw [13] (fun i wr => ∃ (j : Nat) (L : List UInt8), j ≤ ln ∧ i = .int .i64 j ∧ Hid (Seg wr 5 a5 ln c5 (L.map bv)) ∧ Hid (w7.grownBy wr (blockOf a5))) (fun i _ => ln - (intOf i).toNat)
  case atStart => exact ⟨0, m, Nat.zero_le _, rfl, HS7, grownBy_refl _ _⟩
  case round =>
    clear HS7
    obtain ⟨j, L, hj, rfl, HS, HG⟩ := hrel
    by_cases hjl : j < ln
    · have j1 : (j : Int) < (ln : Int) := by omega
      obtain ⟨b5, o5, rfl, hcell, hfr⟩ := HS.out.cell j hjl
      have hLl : L.length = ln := by have := HS.out.1; simpa using this
      have hcl : wr.cell? ⟨b5, o5 + j, none⟩ = some (.int .u8 ((at8 L j).toNat : Int)) := by
        rw [hcell, List.getElem?_map, at8_get L j (by omega)]
        simp [bv, show j < L.length by omega]
      obtain ⟨d, hd⟩ := add1 (at8 L j)
      have hs2 := HS.out.set j hjl (.int .u8 (d.toNat : Int))
      have hms : (L.map bv).set j (.int .u8 (d.toNat : Int)) = (L.set j d).map bv := by rw [List.map_set]; rfl
      rw [hms] at hs2
      have HS2 := cipup hs2
      have HG2 : Hid (w7.grownBy (wr.setCell ⟨b5, o5 + j, none⟩ (.int .u8 (d.toNat : Int))) (blockOf (some ⟨b5, o5, none⟩))) := World.grownBy.trans HG.out (But.setCell wr b5 _ _)
      clear hcell hs2 hms HS HG
      go_wp2
      exact ⟨⟨j + 1, L.set j d, by omega, by go_num, HS2, HG2⟩, by simp [intOf]; omega⟩
    · have j1 : ¬ (j : Int) < (ln : Int) := by omega
      have hgb := HG.out.block g HC7.out.lt (fun e => by
        have := HK5.out g e.symm
        omega)
      have hC : CiIs wr g Z false n := ⟨hgb.trans HC7.out.row, hZl⟩
      have hy := byt_rowb HB7.out HG.out (fun b hb e => by
        have h1 := HK6.out b hb
        have h2 := HL5.out b e
        omega)
      have hW := below_row HW7.out HG.out (fun b hb => by
        have := HK5.out b hb
        omega)
      have HC := cipup hC
      have HW := cipup hW
      have q3 := conv_bytes wr a6 ln c6 m hy
      have q4 := conv_bytes wr a1 ln cap1 m (HB0.out.later hW)
      have q5 := S_beq m m
      have q7 := ci_eq wr Z Z false false n n hZl hZl
      rw [decide_eq_true (And.intro rfl (And.intro rfl rfl))] at q7
      have HQ7 := cipup q7
      clear hgb hy hW hC q7 HS HG HC7 HB7 HW7 HK5 HK6 HL5
      go_wp2_with (first | (refine wpList_load_metC (by rfl) 26 _ rfl g rfl 26 (CiV Z false n).toArray (0, 0) _ HC.out.row Tryd.underlying26 rfl (ci_info Z false n hZl) ?_) | refine HBm.out (by rfl) (.tmp 79) rfl rfl ?_ | refine wpList_cmp false (by rfl) (.tmp 78) (.tmp 80) 26 26 rfl _ _ rfl rfl Tryd.eqGuardType26 true HQ7.out ?_ | fail)
      go_ret
      exact ⟨rfl, HW.out⟩
end Go.Proofs.YtdancpcnjklifaaDoor.cipherPlain
