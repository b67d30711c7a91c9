/- The walk over the program's Write (blake). -/
import Derived.Test.YthjkjfoelekeeaaDoorBlkG
import Derived.Test.YthjkjfoelekeeaaDoorSchedE
namespace Go.Proofs.YthjkjfoelekeeaaDoor
set_option linter.unusedVariables false
open Go.RowKit

/-- What lay outside one block stays, and one cell of it. -/
def ButC (g i : Nat) (w w' : World) : Prop := w.grownBy w' (some g) ∧ w'.cell? ⟨g, i, none⟩ = w.cell? ⟨g, i, none⟩
theorem ButC.refl (g i : Nat) (w : World) : ButC g i w w := ⟨grownBy_refl w _, rfl⟩
theorem ButC.trans (g i : Nat) (a b c : World) (h : ButC g i a b) (k : ButC g i b c) : ButC g i a c := ⟨World.grownBy.trans h.1 k.1, by rw [k.2, h.2]⟩
/-- How many bytes a slice has. -/
def sliceN (v : Value) : Nat := match v with | .slice _ n _ => n | _ => 0
theorem sliceN_slice (a : Option Addr) (n c : Nat) : sliceN (.slice a n c) = n := rfl
/-- While bytes are written. -/
structure WrS (w : World) (g : Nat) (B l : List UInt8) (k : Nat) (a : Option Addr) (n c : Nat) (wr : World) : Prop where
  hash : HashIs wr g (B ++ l.take k)
  src : Byt wr a n (l.drop k)
  nil : a = none → c = 0
  own : 0 < n → ∀ b o f, a = some ⟨b, o, f⟩ → b ≠ g
  len : n + k = l.length
  le : n ≤ c
  cm : c ≤ maxLen
  grown : w.grownBy wr (some g)

set_option maxHeartbeats 4000000 in
set_option maxRecDepth 100000 in
theorem bwrite_any (g : Nat) (B : List UInt8) (a : Option Addr) (len cap : Nat) (l : List UInt8) (w : World) (hH : HashIs w g B) (hB : Byt w a len l) (hnil : a = none → cap = 0) (hown : 0 < len → ∀ b o f, a = some ⟨b, o, f⟩ → b ≠ g) (hlc : len ≤ cap) (hcm : cap ≤ maxLen)
    (hsm : B.length + len ≤ 1000000000) (htab : Tab w) (hg : g ≠ 0 ∧ g ≠ 1) :
    Calls Tryd.prog 21 #[.pointer (some ⟨g, 0, none⟩), .slice a len cap] w fun e w' => (∃ v, e = .returned v) ∧ HashIs w' g (B ++ l) ∧ w.grownBy w' (some g) := by
  have hl : l.length = len := hB.1
  have HTab : Hid (Tab w) := htab
  have HW0 : Hid (WrS w g B l 0 a len cap w) := ⟨by simpa using hH, hB, hnil, hown, by omega, hlc, hcm, grownBy_refl w _⟩
  clear htab hH hB hnil hown
  go_enter Tryd.func21, Tryd.ntmps21
  go_wp2
  go_loopw [1] (fun v wr => ∃ (k : Nat) (a' : Option Addr) (n c : Nat), v = .slice a' n c ∧ Hid (WrS w g B l k a' n c wr)) (fun v _ => sliceN v)
  case atStart => exact ⟨0, a, len, cap, rfl, HW0⟩
  case round =>
    clear HW0
    obtain ⟨k, a', n, c, rfl, hW⟩ := hrel
    have hlen := hW.out.len
    by_cases hn : 0 < n
    · have hni : (0 : Int) < (n : Int) := by omega
      obtain ⟨b, off, rfl⟩ : ∃ b off, a' = some ⟨b, off, none⟩ := by
        rcases hW.out.src.2 with h | ⟨b, off, e, _⟩
        · omega
        · exact ⟨b, off, e⟩
      have hbg : b ≠ g := hW.out.own hn b off none rfl
      obtain ⟨C, hC⟩ : ∃ C, B ++ l.take k = C := ⟨_, rfl⟩
      have hCl : C.length = B.length + k := by rw [← hC]; simp; omega
      have hcn := hW.out.le
      have hcm' : c ≤ 9223372036854775807 := by have := hW.out.cm; unfold maxLen at this; exact this
      have hH := hW.out.hash
      rw [hC] at hH
      obtain ⟨q, p, hq, hX⟩ := hH
      have HC : Hid (B ++ l.take k = C) := hC
      obtain ⟨h, hh⟩ : ∃ h, C.length - 64 * q = h := ⟨_, rfl⟩
      have hlo := hX.lo
      have hhi := hX.hi
      have hp64 := hX.hs.p64
      obtain ⟨ch, fh⟩ := hX.hs.held
      rw [hh] at ch
      clear hC hq
      by_cases hf : h = 64
      · have hfi : (h : Int) = 64 := by omega
        have hS := hX.hs
        rw [hh] at hS
        obtain ⟨M, hM⟩ : ∃ M, bpart (bparts C q) p C.length false = M := ⟨_, rfl⟩
        have HM' : Hid (M = bparts C (q + 1)) := by rw [← hM]; exact full_made C p q hp64 (by omega) hX.eq
        have hMl : M.length = 8 := by rw [← hM, bpart_length]
        have HM : Hid (bpart (bparts C q) p C.length false = M) := hM
        obtain ⟨mm, hmm⟩ : ∃ mm, bparts C q = mm := ⟨_, rfl⟩
        rw [hmm] at hS HM
        have hmml : mm.length = 8 := hS.m8
        obtain ⟨T, hT⟩ : ∃ T, C.length = T := ⟨_, rfl⟩
        rw [hT] at hS HM
        have HS : Hid (Hs wr g mm T p h) := hS
        have HT : Hid (C.length = T) := hT
        have hTl : T < 18446744073709551616 := by omega
        have hCq : Hid (C.length = 64 * q + 64) := by show _ = _; omega
        clear hmm hT
        have IM : Hid ((Tryd.prog.info? 52).map (·.size) = some (mm.map uv).length) := by
          have e1 : (Tryd.prog.info? 52).map (·.size) = some 8 := by kernel_rfl
          show _ = _
          rw [e1]; simp [hmml]
        have IP : Hid ((Tryd.prog.info? 53).map (·.size) = some (p.map bv).length) := by
          have e1 : (Tryd.prog.info? 53).map (·.size) = some 64 := by kernel_rfl
          show _ = _
          rw [e1]; simp [hp64]
        have HSrc := hid_up hW.out.src
        have HGr := hid_up hW.out.grown
        have HCm := hid_up hW.out.cm
        have HXe := hid_up hX.eq
        clear hX hS hW hM
        go_wp2
        obtain ⟨W, hWd⟩ : ∃ W, wr.drew = W := ⟨_, rfl⟩
        have HWd : Hid (wr.drew = W) := hWd
        have hdr : Below wr.heap.size wr W := by rw [← hWd]; exact (Below.refl _ _).drew
        have HSW : Hid (Hs W g mm T p h) := HS.out.later hdr
        have HTW : Hid (Tab W) := (HTab.out.but HGr.out hg).later hdr
        have HBw : Hid (wr.grownBy W (some g)) := But.below g hdr
        clear hWd hdr
        refine wp_region_last (G := Grows) (by kernel_rfl) Grows.refl Grows.trans (by kernel_rfl) [(0, true), (1, true), (2, true), (3, true), (4, true), (5, true), (6, true), (7, true), (8, true), (9, true), (10, true), (11, true), (12, true), (13, false), (14, true), (15, true)] 16 _ rfl ((Array.replicate 17 false).mapIdx fun i _ => i < 16) rfl (by kernel_rfl) (by kernel_rfl) (by kernel_rfl) (by kernel_rfl) ?_
        intro KK hKK
        rw [HWd.out]
        iterate 4 (refine sched_take rfl (by rfl) (v := ?_) ?_ ?_; rotate_left; (intro w' hw'; clear hw'; go_simp; with_reducible rfl); go_simp)
        refine sched_take rfl (by rfl) (v := .agg (mm.map uv).toArray) (fun w' hw' => exec_load_part 52 _ rfl g 0 rfl (mm.map uv) _ (HSW.out.later hw').made Tryd.underlying52 rfl IM.out) ?_
        go_simp
        iterate 3 (refine sched_take rfl (by rfl) (v := ?_) ?_ ?_; rotate_left; (intro w' hw'; clear hw'; go_simp; with_reducible rfl); go_simp)
        refine sched_take rfl (by rfl) (v := .agg (p.map bv).toArray) (fun w' hw' => exec_load_part 53 _ rfl g 9 rfl (p.map bv) _ (HSW.out.later hw').last Tryd.underlying53 rfl IP.out) ?_
        go_simp
        iterate 4 (refine sched_take rfl (by rfl) (v := ?_) ?_ ?_; rotate_left; (intro w' hw'; have ct := (HSW.out.later hw').told.1; clear hw'; go_simp; with_reducible rfl); go_simp)
        refine sched_call (f := 26) (args := #[.agg (mm.map uv).toArray, .agg (p.map bv).toArray, .int .u64 (T : Int), .bool false]) rfl (by rfl) (by go_simp) ?_
        refine (bwith_any mm p T false W hmml hp64 HTW.out hTl).mono ?_
        rintro e w8 ⟨rfl, hb8⟩
        refine ⟨_, rfl, hb8, ?_⟩
        rw [HM.out]
        obtain ⟨hst, hS8⟩ := (HSW.out.later hb8).putMade M hMl
        obtain ⟨W9, hW9⟩ : ∃ W9, w8.setRow g (hashV M T p h).toArray = W9 := ⟨_, rfl⟩
        rw [hW9] at hst hS8
        have HB9 : Hid (wr.grownBy W9 (some g)) := by
          rw [← hW9]
          exact (World.grownBy.trans HBw.out (But.below g hb8)).trans (But.setRow w8 g _)
        have HS9 : Hid (Hs W9 g M T p h) := hS8
        clear hS8 hW9 hb8 HSW HTW HBw HWd
        go_simp
        iterate 2 (refine sched_take rfl (by rfl) (v := ?_) ?_ ?_; rotate_left; (intro w' hw'; clear hw'; go_simp; with_reducible rfl); go_simp)
        refine hKK.out _ _ W9 (by rfl) (by go_simp) ?_
        clear hst
        go_simp
        clear ch fh
        obtain ⟨ch9, fh9⟩ := HS9.out.held
        obtain ⟨Wz, hWz⟩ : ∃ Wz, W9.setCell ⟨g, 73, none⟩ (.int .i64 0) = Wz := ⟨_, rfl⟩
        have HSz : Hid (Hs Wz g M T p 0) := by rw [← hWz]; exact HS9.out.setHeld 0
        have HBz : Hid (wr.grownBy Wz (some g)) := by rw [← hWz]; exact HB9.out.trans (But.setCell W9 g 73 _)
        have HWz : Hid (W9.setCell ⟨g, 73, none⟩ (.int .i64 0) = Wz) := hWz
        clear hWz
        go_wp2
        rw [HWz.out]
        have hCq' := hCq.out
        clear ch9 fh9 HWz HS9 HB9 HS
        have HNow : Hid (Hs Wz g (bparts C (q + 1)) C.length p 0) := by rw [HT.out, ← HM'.out]; exact HSz.out
        have hlo' : 64 * (q + 1) ≤ C.length := by omega
        have hh' : C.length - 64 * (q + 1) = 0 := by omega
        have HEq : Hid (p.take (C.length - 64 * (q + 1)) = C.drop (64 * (q + 1))) := by
          show _ = _
          rw [hh', List.take_zero, List.drop_eq_nil_of_le (by omega)]
        have hhl : 0 < 64 := by omega
        have HSrcZ : Hid (Byt Wz (some ⟨b, off, none⟩) n (l.drop k)) := HSrc.out.but HBz.out hbg
        have HGrZ : Hid (w.grownBy Wz (some g)) := HGr.out.trans HBz.out
        clear HSz HBz HM HM' hMl hmml IM IP HXe HSrc HGr hlo hhi hfi hf hh HT hCq
        obtain ⟨m, hm⟩ : ∃ m, min (64 - 0) n = m := ⟨_, rfl⟩
        have hm0 : 0 < m := by omega
        have hm1 : 0 + m ≤ 64 := by omega
        have hm2 : m ≤ n := by omega
        have hm3 : Nat.min n (64 - 0) = m := by rw [← hm]; exact Nat.min_comm _ _
        obtain ⟨Q, hQ⟩ : ∃ Q, (l.drop k).take m = Q := ⟨_, rfl⟩
        have hQl : Q.length = m := by rw [← hQ]; simp; omega
        obtain ⟨W, hWd⟩ : ∃ W, Wz.drew = W := ⟨_, rfl⟩
        have HWd : Hid (Wz.drew = W) := hWd
        have hdr : Wz.grownBy W (some g) := by rw [← hWd]; exact grownBy_drew _ _
        have HSW : Hid (Hs W g (bparts C (q + 1)) C.length p 0) := by rw [← hWd]; exact ⟨HNow.out.row, HNow.out.m8, HNow.out.p64⟩
        have HSrcW : Hid (Byt W (some ⟨b, off, none⟩) n (l.drop k)) := HSrcZ.out.but hdr hbg
        have HGrW : Hid (w.grownBy W (some g)) := HGrZ.out.trans hdr
        have hheld : ∀ w', ButC g 73 W w' → w'.cell? ⟨g, 73, none⟩ = some (.int .i64 ((0 : Nat) : Int)) := fun w' hw' => by rw [hw'.2]; exact HSW.out.held.1
        obtain ⟨eP, hSP⟩ := HSW.out.putLast Q (by omega)
        have hcp := run_copy_row Tryd.prog W 22 22 3 5 g (9 + 0) (64 - 0) (64 - 0) ⟨b, off, none⟩ n c _ _ (Q.map bv) Tryd.underlying22 Tryd.info1U8 HSW.out.row
          (by rw [List.length_map, hQl]; exact hm3.symm) (fun j v hj => (HSrcW.out.cut hm2).cells _ rfl j v (by rw [hQ]; exact hj)) (by simp [hashV, HSW.out.m8, HSW.out.p64, hQl]; omega) (bv_oneCell _)
        rw [eP] at hcp
        rw [List.length_map, hQl] at hcp
        rw [hQl] at hSP
        obtain ⟨P1, hP1⟩ : ∃ P1, p.take 0 ++ Q ++ p.drop (0 + m) = P1 := ⟨_, rfl⟩
        rw [hP1] at hSP
        rw [hP1] at hcp
        obtain ⟨W1, hW1⟩ : ∃ W1, W.setRow g (hashV (bparts C (q + 1)) C.length P1 0).toArray = W1 := ⟨_, rfl⟩
        rw [hW1] at hcp hSP
        have HG1 : Hid (ButC g 73 W W1) := ⟨by rw [← hW1]; exact But.setRow W g _, by rw [hSP.held.1, HSW.out.held.1]⟩
        have HS1 : Hid (Hs W1 g (bparts C (q + 1)) C.length P1 0) := hSP
        obtain ⟨T, hT⟩ : ∃ T, C.length = T := ⟨_, rfl⟩
        obtain ⟨h2, hh2⟩ : ∃ h2, 0 + m = h2 := ⟨_, rfl⟩
        obtain ⟨t2, ht2⟩ : ∃ t2, T + m = t2 := ⟨_, rfl⟩
        have s1 : ((0 : Nat) : Int) ≤ 64 := by omega
        have s1' : ((0 : Nat) : Int) < 64 := by omega
        have s2 : ¬ 64 = 0 := by omega
        have s3 : ¬ 64 ≤ 0 := by omega
        simp only [Nat.add_zero, Nat.sub_zero] at hcp
        clear hdr hWd hSP eP hW1 HNow
        refine wp_region_sched' (G := ButC g 73) (by kernel_rfl) (ButC.refl g 73) (ButC.trans g 73) (by kernel_rfl) [(0, true), (1, true), (2, true), (3, true), (4, true), (5, true), (6, true), (7, true), (8, true), (9, false), (10, true)] rfl (by kernel_rfl) ?_
        intro KQ hKQ
        rw [HWd.out]
        iterate 9 (refine sched_take rfl (by rfl) (v := ?_) ?_ ?_; rotate_left; (intro w' hw'; have q1 := hheld w' hw'; clear hw'; go_simp; with_reducible rfl); go_simp)
        refine sched_val (w' := W1) (v := goInt m) rfl (by rfl) (by go_simp) HG1.out ?_
        clear hcp hheld
        go_simp
        iterate 1 (refine sched_take rfl (by rfl) (v := ?_) ?_ ?_; rotate_left; (intro w' hw'; clear hw'; go_simp; with_reducible rfl); go_simp)
        refine sched_done hKQ ?_
        have HG2 : Hid (w.grownBy W1 (some g)) := HGrW.out.trans HG1.out.1
        have HSrc1 : Hid (Byt W1 (some ⟨b, off, none⟩) n (l.drop k)) := HSrcW.out.but HG1.out.1 hbg
        clear HG1 HGrW HSrcW HSW HWd
        obtain ⟨c1, f1⟩ := HS1.out.held
        obtain ⟨c2, f2⟩ := HS1.out.told
        have HS2 := HS1.out.setHeld h2
        obtain ⟨W2, hW2⟩ : ∃ W2, W1.setCell ⟨g, 73, none⟩ (.int .i64 (h2 : Int)) = W2 := ⟨_, rfl⟩
        rw [hW2] at HS2
        have HS3 := HS2.setTold t2
        obtain ⟨W3, hW3⟩ : ∃ W3, W2.setCell ⟨g, 8, none⟩ (.int .u64 (t2 : Int)) = W3 := ⟨_, rfl⟩
        rw [hW3] at HS3
        have hG3 : W1.grownBy W3 (some g) := by rw [← hW3, ← hW2]; exact World.grownBy.trans (But.setCell W1 g 73 _) (But.setCell _ g 8 _)
        have HFin : Hid (HashIs W3 g (C ++ Q)) := by
          refine more_held (p := p) hlo' HEq.out hp64 (by omega) (by omega) ?_
          have x1 : (C ++ Q).length = t2 := by rw [List.length_append, hQl, hT]; exact ht2
          have x2 : t2 - 64 * (q + 1) = h2 := by omega
          rw [x1, x2, hh', hQl, hP1]
          exact HS3
        have HTk : Hid (B ++ l.take (k + m) = C ++ Q) := by
          show _ = _
          rw [← HC.out, ← hQ, List.append_assoc, ← List.take_add]
        have HG4 : Hid (w.grownBy W3 (some g)) := HG2.out.trans hG3
        have HSrc3 : Hid (Byt W3 (some ⟨b, off, none⟩) n (l.drop k)) := HSrc1.out.but hG3 hbg
        have HWW : Hid ((W1.setCell ⟨g, 73, none⟩ (.int .i64 (h2 : Int))).setCell ⟨g, 8, none⟩ (.int .u64 (t2 : Int)) = W3) := by rw [hW2, hW3]; exact rfl
        rw [hT] at c2
        obtain rfl : m = h2 := by omega
        have n2 : (T : Int) + (m : Int) = (t2 : Int) := by omega
        have n3 : (m : Int) ≤ (n : Int) := by omega
        have n6 : IntKind.u64.wrap (t2 : Int) = (t2 : Int) := by rw [IntKind.wrap_u64]; omega
        have n4 : (m : Int) ≤ (c : Int) := by omega
        have n5 : (m : Int) ≤ 9223372036854775807 := by omega
        clear HS1 HS2 HS3 hG3 hW2 hW3 HG2 HSrc1 HSrcZ HGrZ hQ hP1 hT hm hm3 hQl hh2 ht2 HEq HC 
        by_cases hcm2 : c = m
        · subst hcm2
          have hnc : n = c := by omega
          go_wp2
          rw [HWW.out]
          refine ⟨⟨k + c, some ⟨b, off, none⟩, 0, 0, rfl, ⟨by rw [HTk.out]; exact HFin.out, ⟨by simp; omega, .inl rfl⟩, (fun e => by cases e), (fun h0 => absurd h0 (Nat.lt_irrefl 0)), by omega, Nat.le_refl _, Nat.zero_le _, HG4.out⟩⟩, ?_⟩
          rw [sliceN_slice, sliceN_slice]
          exact hn
        · go_wp2
          rw [HWW.out]
          refine ⟨⟨k + m, some ⟨b, off + m, none⟩, n - m, c - m, rfl, ⟨by rw [HTk.out]; exact HFin.out, ?_, (fun e => by cases e), (fun _ b' o' f' e => by cases e; exact hbg), by omega, by omega, Nat.le_trans (Nat.sub_le _ _) HCm.out, HG4.out⟩⟩, ?_⟩
          · have := HSrc3.out.sub (n := m) (q := n) hm2 (Nat.le_refl _)
            rw [List.drop_drop, List.take_of_length_le (by simp; omega)] at this
            exact this
          · rw [sliceN_slice, sliceN_slice]
            omega
      · have hfi : ¬ (h : Int) = 64 := by omega
        have HNow : Hid (Hs wr g (bparts C q) C.length p h) := by have := hX.hs; rw [hh] at this; exact this
        have HEq : Hid (p.take (C.length - 64 * q) = C.drop (64 * q)) := hX.eq
        have HSrcZ : Hid (Byt wr (some ⟨b, off, none⟩) n (l.drop k)) := hW.out.src
        have HGrZ : Hid (w.grownBy wr (some g)) := hW.out.grown
        have HCm := hid_up hW.out.cm
        have hhl : h < 64 := by omega
        clear hX hW
        go_wp2
        clear ch fh hfi
        obtain ⟨m, hm⟩ : ∃ m, min (64 - h) n = m := ⟨_, rfl⟩
        have hm0 : 0 < m := by omega
        have hm1 : h + m ≤ 64 := by omega
        have hm2 : m ≤ n := by omega
        have hm3 : Nat.min n (64 - h) = m := by rw [← hm]; exact Nat.min_comm _ _
        obtain ⟨Q, hQ⟩ : ∃ Q, (l.drop k).take m = Q := ⟨_, rfl⟩
        have hQl : Q.length = m := by rw [← hQ]; simp; omega
        obtain ⟨W, hWd⟩ : ∃ W, wr.drew = W := ⟨_, rfl⟩
        have HWd : Hid (wr.drew = W) := hWd
        have hdr : wr.grownBy W (some g) := by rw [← hWd]; exact grownBy_drew _ _
        have HSW : Hid (Hs W g (bparts C q) C.length p h) := by rw [← hWd]; exact ⟨HNow.out.row, HNow.out.m8, HNow.out.p64⟩
        have HSrcW : Hid (Byt W (some ⟨b, off, none⟩) n (l.drop k)) := HSrcZ.out.but hdr hbg
        have HGrW : Hid (w.grownBy W (some g)) := HGrZ.out.trans hdr
        have hheld : ∀ w', ButC g 73 W w' → w'.cell? ⟨g, 73, none⟩ = some (.int .i64 (h : Int)) := fun w' hw' => by rw [hw'.2]; exact HSW.out.held.1
        obtain ⟨eP, hSP⟩ := HSW.out.putLast Q (by omega)
        have hcp := run_copy_row Tryd.prog W 22 22 3 5 g (9 + h) (64 - h) (64 - h) ⟨b, off, none⟩ n c _ _ (Q.map bv) Tryd.underlying22 Tryd.info1U8 HSW.out.row
          (by rw [List.length_map, hQl]; exact hm3.symm) (fun j v hj => (HSrcW.out.cut hm2).cells _ rfl j v (by rw [hQ]; exact hj)) (by simp [hashV, HSW.out.m8, HSW.out.p64, hQl]; omega) (bv_oneCell _)
        rw [eP] at hcp
        rw [List.length_map, hQl] at hcp
        rw [hQl] at hSP
        obtain ⟨P1, hP1⟩ : ∃ P1, p.take h ++ Q ++ p.drop (h + m) = P1 := ⟨_, rfl⟩
        rw [hP1] at hSP
        rw [hP1] at hcp
        obtain ⟨W1, hW1⟩ : ∃ W1, W.setRow g (hashV (bparts C q) C.length P1 h).toArray = W1 := ⟨_, rfl⟩
        rw [hW1] at hcp hSP
        have HG1 : Hid (ButC g 73 W W1) := ⟨by rw [← hW1]; exact But.setRow W g _, by rw [hSP.held.1, HSW.out.held.1]⟩
        have HS1 : Hid (Hs W1 g (bparts C q) C.length P1 h) := hSP
        obtain ⟨T, hT⟩ : ∃ T, C.length = T := ⟨_, rfl⟩
        obtain ⟨h2, hh2⟩ : ∃ h2, h + m = h2 := ⟨_, rfl⟩
        obtain ⟨t2, ht2⟩ : ∃ t2, T + m = t2 := ⟨_, rfl⟩
        have s1 : (h : Int) ≤ 64 := by omega
        have s1' : (h : Int) < 64 := by omega
        have s2 : ¬ 64 = h := by omega
        have s3 : ¬ 64 ≤ h := by omega
        clear hdr hWd hSP eP hW1 HNow
        refine wp_region_sched' (G := ButC g 73) (by kernel_rfl) (ButC.refl g 73) (ButC.trans g 73) (by kernel_rfl) [(0, true), (1, true), (2, true), (3, true), (4, true), (5, true), (6, true), (7, true), (8, true), (9, false), (10, true)] rfl (by kernel_rfl) ?_
        intro KQ hKQ
        rw [HWd.out]
        iterate 9 (refine sched_take rfl (by rfl) (v := ?_) ?_ ?_; rotate_left; (intro w' hw'; have q1 := hheld w' hw'; clear hw'; go_simp; with_reducible rfl); go_simp)
        refine sched_val (w' := W1) (v := goInt m) rfl (by rfl) (by go_simp) HG1.out ?_
        clear hcp hheld
        go_simp
        iterate 1 (refine sched_take rfl (by rfl) (v := ?_) ?_ ?_; rotate_left; (intro w' hw'; clear hw'; go_simp; with_reducible rfl); go_simp)
        refine sched_done hKQ ?_
        have HG2 : Hid (w.grownBy W1 (some g)) := HGrW.out.trans HG1.out.1
        have HSrc1 : Hid (Byt W1 (some ⟨b, off, none⟩) n (l.drop k)) := HSrcW.out.but HG1.out.1 hbg
        clear HG1 HGrW HSrcW HSW HWd
        obtain ⟨c1, f1⟩ := HS1.out.held
        obtain ⟨c2, f2⟩ := HS1.out.told
        have HS2 := HS1.out.setHeld h2
        obtain ⟨W2, hW2⟩ : ∃ W2, W1.setCell ⟨g, 73, none⟩ (.int .i64 (h2 : Int)) = W2 := ⟨_, rfl⟩
        rw [hW2] at HS2
        have HS3 := HS2.setTold t2
        obtain ⟨W3, hW3⟩ : ∃ W3, W2.setCell ⟨g, 8, none⟩ (.int .u64 (t2 : Int)) = W3 := ⟨_, rfl⟩
        rw [hW3] at HS3
        have hG3 : W1.grownBy W3 (some g) := by rw [← hW3, ← hW2]; exact World.grownBy.trans (But.setCell W1 g 73 _) (But.setCell _ g 8 _)
        have HFin : Hid (HashIs W3 g (C ++ Q)) := by
          refine more_held (p := p) hlo HEq.out hp64 (by omega) (by omega) ?_
          have x1 : (C ++ Q).length = t2 := by rw [List.length_append, hQl, hT]; exact ht2
          have x2 : t2 - 64 * q = h2 := by omega
          rw [x1, x2, hh, hQl, hP1]
          exact HS3
        have HTk : Hid (B ++ l.take (k + m) = C ++ Q) := by
          show _ = _
          rw [← HC.out, ← hQ, List.append_assoc, ← List.take_add]
        have HG4 : Hid (w.grownBy W3 (some g)) := HG2.out.trans hG3
        have HSrc3 : Hid (Byt W3 (some ⟨b, off, none⟩) n (l.drop k)) := HSrc1.out.but hG3 hbg
        have HWW : Hid ((W1.setCell ⟨g, 73, none⟩ (.int .i64 (h2 : Int))).setCell ⟨g, 8, none⟩ (.int .u64 (t2 : Int)) = W3) := by rw [hW2, hW3]; exact rfl
        rw [hT] at c2
        have n1 : (h : Int) + (m : Int) = (h2 : Int) := by omega
        have n2 : (T : Int) + (m : Int) = (t2 : Int) := by omega
        have n3 : (m : Int) ≤ (n : Int) := by omega
        have n6 : IntKind.u64.wrap (t2 : Int) = (t2 : Int) := by rw [IntKind.wrap_u64]; omega
        have n4 : (m : Int) ≤ (c : Int) := by omega
        have n5 : (m : Int) ≤ 9223372036854775807 := by omega
        clear HS1 HS2 HS3 hG3 hW2 hW3 HG2 HSrc1 HSrcZ HGrZ hQ hP1 hT hm hm3 hQl hh2 ht2 HEq HC 
        by_cases hcm2 : c = m
        · subst hcm2
          have hnc : n = c := by omega
          go_wp2
          rw [HWW.out]
          refine ⟨⟨k + c, some ⟨b, off, none⟩, 0, 0, rfl, ⟨by rw [HTk.out]; exact HFin.out, ⟨by simp; omega, .inl rfl⟩, (fun e => by cases e), (fun h0 => absurd h0 (Nat.lt_irrefl 0)), by omega, Nat.le_refl _, Nat.zero_le _, HG4.out⟩⟩, ?_⟩
          rw [sliceN_slice, sliceN_slice]
          exact hn
        · go_wp2
          rw [HWW.out]
          refine ⟨⟨k + m, some ⟨b, off + m, none⟩, n - m, c - m, rfl, ⟨by rw [HTk.out]; exact HFin.out, ?_, (fun e => by cases e), (fun _ b' o' f' e => by cases e; exact hbg), by omega, by omega, Nat.le_trans (Nat.sub_le _ _) HCm.out, HG4.out⟩⟩, ?_⟩
          · have := HSrc3.out.sub (n := m) (q := n) hm2 (Nat.le_refl _)
            rw [List.drop_drop, List.take_of_length_le (by simp; omega)] at this
            exact this
          · rw [sliceN_slice, sliceN_slice]
            omega
    · have hn0 : n = 0 := by omega
      have hni : ¬ (0 : Int) < (n : Int) := by omega
      have HF : Hid (HashIs wr g (B ++ l)) := by
        have := hW.out.hash
        rw [List.take_of_length_le (by omega)] at this
        exact this
      have HG : Hid (w.grownBy wr (some g)) := hW.out.grown
      clear hW
      go_wp2
      go_end0
      exact ⟨⟨_, rfl⟩, HF.out, HG.out⟩
end Go.Proofs.YthjkjfoelekeeaaDoor
