/- FieldSmall. For every two numbers of 32 bits, without a condition. -/
import Derived.Test.YtgggdcliepgahaaDoorFieldShown
namespace Go.Proofs.YtgggdcliepgahaaDoor.fieldSmall
open Go.ChangeShapes Go.WideShapes Go.ChangeAt Go.RowKit
set_option linter.unusedVariables false

/-- The first k bytes of a number, and 0s. -/
def smTo (n k : Nat) : List UInt8 := leB k n ++ List.replicate (32 - k) 0
theorem smTo_length (n k : Nat) (hk : k ≤ 32) : (smTo n k).length = 32 := by simp [smTo, leB_length]; omega
theorem smTo_set (n k : Nat) (hk : k < 32) : (smTo n k).set k (UInt8.ofNat (n / 256 ^ k % 256)) = smTo n (k + 1) := by
  unfold smTo
  rw [List.set_append_right _ _ (by rw [leB_length]; exact Nat.le_refl _), leB_length, Nat.sub_self, show 32 - k = (32 - (k + 1)) + 1 by omega, List.replicate_succ, List.set_cons_zero, leB_snoc, List.append_assoc]
  rfl
theorem smTo_end (n : Nat) (h : n < 18446744073709551616) : smTo n 8 = leB 32 n := by
  have key : ∀ j, leB (8 + j) n = leB 8 n ++ List.replicate j 0 := by
    intro j
    induction j with
    | zero => simp
    | succ j ih =>
      have e : n / 256 ^ (8 + j) = 0 := Nat.div_eq_of_lt (Nat.lt_of_lt_of_le h (Nat.le_trans (by decide : 18446744073709551616 ≤ 256 ^ 8) (Nat.pow_le_pow_right (by decide) (by omega))))
      rw [← Nat.add_assoc, leB_snoc, ih, e, List.replicate_succ', List.append_assoc]
      rfl
  exact (key 24).symm
theorem sm_byte (n k : Nat) : ((UInt8.ofNat (n / 256 ^ k % 256)).toNat : Int) = ((n : Int) / 2 ^ (8 * k)) % 256 := by
  have h0 : (UInt8.ofNat (n / 256 ^ k % 256)).toNat = n / 2 ^ (8 * k) % 256 := by
    rw [UInt8.toNat_ofNat', pow256]
    omega
  have h1 : ((n / 2 ^ (8 * k) : Nat) : Int) = (n : Int) / 2 ^ (8 * k) := by
    rw [Int.natCast_ediv]
    simp
  rw [h0, ← h1]
  omega
def zero32K : Array Value := (List.replicate 32 (Value.int .u8 0)).toArray
theorem zero32K_eq (n : Nat) : zero32K = ((smTo n 0).map bv).toArray := by rfl
/-- The two elements, and the bytes of the sum and of the product as far as they are laid. -/
structure Sm (w : World) (g1 g2 gs gp : Nat) (c1 c2 : List Value) (s p k : Nat) (W : World) : Prop where
  c1 : Cel W g1 c1
  c2 : Cel W g2 c2
  s : Arr W gs 23 (smTo s k)
  p : Arr W gp 23 (smTo p k)
  ne : g1 ≠ gs ∧ g1 ≠ gp ∧ g2 ≠ gs ∧ g2 ≠ gp ∧ gs ≠ gp
  le : w.heap.size ≤ gs ∧ w.heap.size ≤ gp
  bel : Below w.heap.size w W
theorem Sm.later {w W W' : World} {g1 g2 gs gp : Nat} {c1 c2 : List Value} {s p k : Nat} (x : Sm w g1 g2 gs gp c1 c2 s p k W) (hb : Below W.heap.size W W') : Sm w g1 g2 gs gp c1 c2 s p k W' :=
  ⟨x.c1.later hb, x.c2.later hb, x.s.later hb, x.p.later hb, x.ne, x.le, x.bel.trans (hb.mono x.bel.size)⟩
theorem Cel.other {w : World} {g g' : Nat} {l : List Value} (h : Cel w g l) (hne : g ≠ g') (i : Nat) (v : Value) : Cel (w.setCell ⟨g', i, none⟩ v) g l := by
  unfold Cel
  rw [heap_setCell_other w ⟨g', i, none⟩ g v hne]
  exact h
theorem Sm.step {w W : World} {g1 g2 gs gp : Nat} {c1 c2 : List Value} {s p k : Nat} (x : Sm w g1 g2 gs gp c1 c2 s p k W) (hk : k < 32) :
    Sm w g1 g2 gs gp c1 c2 s p (k + 1) ((W.setCell ⟨gs, k, none⟩ (.int .u8 (((UInt8.ofNat (s / 256 ^ k % 256)).toNat : Int)))).setCell ⟨gp, k, none⟩ (.int .u8 (((UInt8.ofNat (p / 256 ^ k % 256)).toNat : Int)))) := by
  obtain ⟨n1, n2, n3, n4, n5⟩ := x.ne
  refine ⟨Cel.other (Cel.other x.c1 n1 _ _) n2 _ _, Cel.other (Cel.other x.c2 n3 _ _) n4 _ _, ?_, ?_, x.ne, x.le, (x.bel.setCell x.le.1 _).setCell x.le.2 _⟩
  · have := (x.s.set k (UInt8.ofNat (s / 256 ^ k % 256))).other n5 k (.int .u8 (((UInt8.ofNat (p / 256 ^ k % 256)).toNat : Int)))
    rwa [smTo_set s k hk] at this
  · have := (x.p.other (fun e => n5 e.symm) k (.int .u8 (((UInt8.ofNat (s / 256 ^ k % 256)).toNat : Int)))).set k (UInt8.ofNat (p / 256 ^ k % 256))
    rwa [smTo_set p k hk] at this

set_option maxHeartbeats 8000000 in
set_option maxRecDepth 100000 in
theorem walk (a0 a1 : Int) (w : World) (w0 : (Lit.int .u32 a0).wf = true) (w1 : (Lit.int .u32 a1).wf = true) (htab : FTab w) :
    Calls Tryd.prog 6 #[.int .u32 a0, .int .u32 a1] w fun e w' => e = .returned (.bool true) ∧ Below w.heap.size w w' := by
  have HTab : Hid (FTab w) := htab
  clear htab
  obtain ⟨XX, rfl⟩ := u32_word a0 w0
  obtain ⟨YY, rfl⟩ := u32_word a1 w1
  obtain ⟨x, hx⟩ : ∃ x, XX.toNat = x := ⟨_, rfl⟩
  obtain ⟨y, hy⟩ : ∃ y, YY.toNat = y := ⟨_, rfl⟩
  have hxl : x < 4294967296 := by rw [← hx]; exact XX.isLt
  have hyl : y < 4294967296 := by rw [← hy]; exact YY.isLt
  rw [hx, hy]
  clear w0 w1 hx hy
  have hI : Hid (∀ l : List UInt8, l.length = 32 → (Tryd.prog.info? 23).map (·.size) = some (l.map bv).toArray.size) := fun l hl => info_size (n := 32) (by kernel_rfl) l hl
  obtain ⟨s, hs⟩ : ∃ s, x + y = s := ⟨_, rfl⟩
  obtain ⟨p, hp⟩ : ∃ p, x * y = p := ⟨_, rfl⟩
  have hsl : s < 18446744073709551616 := by omega
  have hpl : p < 18446744073709551616 := by
    rw [← hp]
    exact Nat.lt_of_le_of_lt (Nat.mul_le_mul (Nat.le_of_lt_succ hxl) (Nat.le_of_lt_succ hyl)) (by decide)
  have e1 : IntKind.u64.wrap (x : Int) = (x : Int) := by rw [IntKind.wrap_u64]; omega
  have e2 : IntKind.u64.wrap (y : Int) = (y : Int) := by rw [IntKind.wrap_u64]; omega
  have e3 : IntKind.u64.wrap ((x : Int) + (y : Int)) = (s : Int) := by rw [IntKind.wrap_u64]; omega
  have e4 : IntKind.u64.wrap ((x : Int) * (y : Int)) = (p : Int) := by
    rw [IntKind.wrap_u64, ← Int.natCast_mul, hp]; omega
  have HSP : Hid (x + y = s ∧ x * y = p) := ⟨hs, hp⟩
  clear hs hp
  go_enter Tryd.func6, Tryd.ntmps6
  go_wp2_with fail
  refine (fshown_any _).mono ?_
  rintro e V0 ⟨rfl, hb⟩
  have HW : Hid (Below w.heap.size w V0) := hb
  clear hb
  go_wp2_with fail
  refine (fsmall_any x V0 hxl).mono ?_
  rintro e V1 ⟨c1, rfl, he, hb⟩
  have HE1 : Hid (Elm c1 x) := he
  have hlen1 := he.len
  have hst := elm_store V1 he
  have hC := Cel.new V1 c1
  obtain ⟨W1, hW⟩ : ∃ W, V1.alloc (.cells c1.toArray 28) = W := ⟨_, rfl⟩
  rw [hW] at hst hC
  have hbW : Below V0.heap.size V0 W1 := by rw [← hW]; exact hb.alloc hb.size _
  replace HW := hidup (HW.out.trans (hbW.mono HW.out.size))
  have HC1 : Hid (Cel W1 V1.heap.size c1) := hC
  clear he hb hbW hC hW
  go_wp2_with fail
  clear hst
  generalize V1.heap.size = g1 at *
  refine (fsmall_any y W1 hyl).mono ?_
  rintro e V2 ⟨c2, rfl, he, hb⟩
  have HE2 : Hid (Elm c2 y) := he
  have hlen2 := he.len
  have hst := elm_store V2 he
  have hC := Cel.new V2 c2
  obtain ⟨W2, hW⟩ : ∃ W, V2.alloc (.cells c2.toArray 28) = W := ⟨_, rfl⟩
  rw [hW] at hst hC
  have hbW : Below W1.heap.size W1 W2 := by rw [← hW]; exact hb.alloc hb.size _
  replace HW := hidup (HW.out.trans (hbW.mono HW.out.size))
  replace HC1 := hidup (HC1.out.later hbW)
  have HC2 : Hid (Cel W2 V2.heap.size c2) := hC
  have HS0 : Hid (Sm w g1 V2.heap.size W2.heap.size (W2.heap.size + 1) c1 c2 s p 0 ((W2.alloc (.cells zero32K 23)).alloc (.cells zero32K 23))) := by
    have l1 := HC1.out.lt
    have l2 := HC2.out.lt
    have hz := HW.out.size
    have b1 : Below W2.heap.size W2 (W2.alloc (.cells zero32K 23)) := (Below.refl _ _).alloc (Nat.le_refl _) _
    have b2 : Below (W2.alloc (.cells zero32K 23)).heap.size (W2.alloc (.cells zero32K 23)) ((W2.alloc (.cells zero32K 23)).alloc (.cells zero32K 23)) := (Below.refl _ _).alloc (Nat.le_refl _) _
    have bb := b1.trans (b2.mono b1.size)
    have h1 := Arr.new W2 23 (smTo s 0)
    have h2 := Arr.new (W2.alloc (.cells zero32K 23)) 23 (smTo p 0)
    rw [← zero32K_eq] at h1 h2
    rw [World.size_alloc] at h2
    exact ⟨HC1.out.later bb, HC2.out.later bb, h1.later b2, h2, ⟨by omega, by omega, by omega, by omega, by omega⟩, ⟨by omega, by omega⟩, HW.out.trans (bb.mono HW.out.size)⟩
  clear he hb hbW hC hW HC1 HC2 HW
  go_wp2
  clear hst e1 e2 e3 e4
  generalize V2.heap.size = g2 at *
  go_loopw [12] (fun i wr => ∃ k : Nat, k ≤ 8 ∧ i = .int .i64 k ∧ Hid (Sm w g1 g2 W2.heap.size (W2.heap.size + 1) c1 c2 s p k wr)) (fun i _ => 8 - (intOf i).toNat)
  case atStart => exact ⟨0, Nat.zero_le _, rfl, HS0⟩
  case round =>
    clear HS0
    obtain ⟨k, hk, rfl, hS⟩ := hrel
    generalize W2.heap.size = gs at *
    by_cases hlt : k < 8
    · have i1 : (k : Int) < 8 := by omega
      have i2 : (k : Int) < 32 := by omega
      obtain ⟨cs1, fs1⟩ := hS.out.s.at_ k (by rw [smTo_length _ _ (by omega)]; omega)
      obtain ⟨cs2, fs2⟩ := hS.out.p.at_ k (by rw [smTo_length _ _ (by omega)]; omega)
      have h1 := hS.out.step (by omega : k < 32)
      rw [sm_byte, sm_byte] at h1
      have HS1 := hidup h1
      clear h1 hS
      go_wp2
      exact ⟨⟨k + 1, by omega, by go_num, HS1⟩, by simp [intOf]; omega⟩
    · have ek : k = 8 := by omega
      subst ek
      have i1 : ¬ ((8 : Nat) : Int) < 8 := by omega
      have hdr : Below wr.heap.size wr wr.drew := (Below.refl _ _).drew
      have HS := hidup (hS.out.later hdr)
      have HSs : Hid (Arr wr.drew gs 23 (leB 32 s)) := by have := HS.out.s; rwa [smTo_end s hsl] at this
      have HSp : Hid (Arr wr.drew (gs + 1) 23 (leB 32 p)) := by have := HS.out.p; rwa [smTo_end p hpl] at this
      have HF1 : Hid (FC x (x : Int)) := FC.self HE1.out.lt
      have HF2 : Hid (FC y (y : Int)) := FC.self HE2.out.lt
      have hPl : (18446744073709551616 : Nat) < P255 := by decide
      have HFs : Hid (FC s ((x : Int) + (y : Int))) := by
        have h := FC.self (Nat.lt_trans hsl hPl)
        have e : (s : Int) = (x : Int) + (y : Int) := by have := HSP.out.1; omega
        rw [e] at h
        exact h
      have HFp : Hid (FC p ((x : Int) * (y : Int))) := by
        have h := FC.self (Nat.lt_trans hpl hPl)
        have e : (p : Int) = (x : Int) * (y : Int) := by rw [← HSP.out.2, Int.natCast_mul]
        rw [e] at h
        exact h
      clear hS hdr HSP hPl
      go_wp2_with fail
      obtain ⟨W, hWd⟩ : ∃ W, wr.drew = W := ⟨_, rfl⟩
      have HWd : Hid (wr.drew = W) := hWd
      rw [hWd] at HS HSs HSp
      clear hWd
      refine wp_region_sched' (G := Grows) (by kernel_rfl) Grows.refl Grows.trans (by kernel_rfl) [(0, true), (1, true), (2, true), (3, true), (6, true), (4, false), (5, false), (7, true), (8, true), (9, true), (10, true), (11, true), (14, true), (12, false), (13, false), (15, true), (16, true), (17, true), (18, true), (19, true), (21, true), (24, true), (20, false), (22, false), (23, false), (25, false), (26, true), (27, true), (28, true)] rfl (by kernel_rfl) ?_
      intro KK hKK
      rw [HWd.out]
      clear HWd
      iterate 2 (refine sched_take rfl (by rfl) (v := ?_) ?_ ?_; rotate_left; (intro w' hw'; clear hw'; go_simp; with_reducible rfl); go_simp)
      refine sched_take rfl (by rfl) (v := .agg c1.toArray) (fun w' hw' => exec_load_row 28 _ rfl g1 rfl 28 _ (0, 0) _ (HS.out.later hw').c1 Tryd.underlying28 rfl (elm_info HE1.out)) ?_
      go_simp
      refine sched_take rfl (by rfl) (v := .agg c2.toArray) (fun w' hw' => exec_load_row 28 _ rfl g2 rfl 28 _ (0, 0) _ (HS.out.later hw').c2 Tryd.underlying28 rfl (elm_info HE2.out)) ?_
      go_simp
      refine sched_take rfl (by rfl) (v := .agg ((leB 32 s).map bv).toArray) (fun w' hw' => exec_load_row 23 _ rfl gs rfl 23 _ (0, 0) _ (HSs.out.later hw') Tryd.underlying23 rfl (hI.out _ (leB_length _ _))) ?_
      go_simp
      refine sched_call (f := 15) (args := #[.agg c1.toArray, .agg c2.toArray]) rfl (by rfl) (by go_simp) ?_
      refine (fadd_any c1 c2 x y W HE1.out HE2.out).mono ?_
      rintro e U0 ⟨d1, rfl, he, hb⟩
      refine ⟨_, rfl, hb, ?_⟩
      obtain ⟨nd1, hn⟩ : ∃ n, (x + y) % P255 = n := ⟨_, rfl⟩
      rw [hn] at he
      have HEd1 : Hid (Elm d1 nd1) := he
      have HFd1 : Hid (FC nd1 ((x : Int) + (y : Int))) := by rw [← hn]; exact HF1.out.add HF2.out
      replace HS := hidup (HS.out.later hb)
      replace HSs := hidup (HSs.out.later hb)
      replace HSp := hidup (HSp.out.later hb)
      clear he hb hn
      go_simp
      refine sched_call (f := 13) (args := #[.agg d1.toArray]) rfl (by rfl) (by go_simp) ?_
      refine (fbytes_any d1 nd1 U0 HEd1.out).mono ?_
      rintro e U1 ⟨rfl, hb⟩
      refine ⟨_, rfl, hb, ?_⟩
      replace HS := hidup (HS.out.later hb)
      replace HSs := hidup (HSs.out.later hb)
      replace HSp := hidup (HSp.out.later hb)
      clear hb
      go_simp
      have hq : Hid (nd1 = s) := FC.ext HFd1.out HFs.out
      refine sched_take rfl (by rfl) (v := ?_) ?_ ?_; rotate_left; (intro w' hw'; clear hw'; have q1 := key_same w' nd1 s hq.out; go_simp; with_reducible rfl); go_simp
      clear hq
      iterate 2 (refine sched_take rfl (by rfl) (v := ?_) ?_ ?_; rotate_left; (intro w' hw'; clear hw'; go_simp; with_reducible rfl); go_simp)
      refine sched_take rfl (by rfl) (v := .agg c1.toArray) (fun w' hw' => exec_load_row 28 _ rfl g1 rfl 28 _ (0, 0) _ (HS.out.later hw').c1 Tryd.underlying28 rfl (elm_info HE1.out)) ?_
      go_simp
      refine sched_take rfl (by rfl) (v := .agg c2.toArray) (fun w' hw' => exec_load_row 28 _ rfl g2 rfl 28 _ (0, 0) _ (HS.out.later hw').c2 Tryd.underlying28 rfl (elm_info HE2.out)) ?_
      go_simp
      refine sched_take rfl (by rfl) (v := .agg ((leB 32 p).map bv).toArray) (fun w' hw' => exec_load_row 23 _ rfl (gs + 1) rfl 23 _ (0, 0) _ (HSp.out.later hw') Tryd.underlying23 rfl (hI.out _ (leB_length _ _))) ?_
      go_simp
      refine sched_call (f := 19) (args := #[.agg c1.toArray, .agg c2.toArray]) rfl (by rfl) (by go_simp) ?_
      refine (fmul_any c1 c2 x y U1 HE1.out HE2.out).mono ?_
      rintro e U2 ⟨d2, rfl, he, hb⟩
      refine ⟨_, rfl, hb, ?_⟩
      obtain ⟨nd2, hn⟩ : ∃ n, (x * y) % P255 = n := ⟨_, rfl⟩
      rw [hn] at he
      have HEd2 : Hid (Elm d2 nd2) := he
      have HFd2 : Hid (FC nd2 ((x : Int) * (y : Int))) := by rw [← hn]; exact HF1.out.mul HF2.out
      replace HS := hidup (HS.out.later hb)
      replace HSs := hidup (HSs.out.later hb)
      replace HSp := hidup (HSp.out.later hb)
      clear he hb hn
      go_simp
      refine sched_call (f := 13) (args := #[.agg d2.toArray]) rfl (by rfl) (by go_simp) ?_
      refine (fbytes_any d2 nd2 U2 HEd2.out).mono ?_
      rintro e U3 ⟨rfl, hb⟩
      refine ⟨_, rfl, hb, ?_⟩
      replace HS := hidup (HS.out.later hb)
      replace HSs := hidup (HSs.out.later hb)
      replace HSp := hidup (HSp.out.later hb)
      clear hb
      go_simp
      have hq : Hid (nd2 = p) := FC.ext HFd2.out HFp.out
      refine sched_take rfl (by rfl) (v := ?_) ?_ ?_; rotate_left; (intro w' hw'; clear hw'; have q1 := key_same w' nd2 p hq.out; go_simp; with_reducible rfl); go_simp
      clear hq
      iterate 2 (refine sched_take rfl (by rfl) (v := ?_) ?_ ?_; rotate_left; (intro w' hw'; clear hw'; go_simp; with_reducible rfl); go_simp)
      refine sched_take rfl (by rfl) (v := .agg c1.toArray) (fun w' hw' => exec_load_row 28 _ rfl g1 rfl 28 _ (0, 0) _ (HS.out.later hw').c1 Tryd.underlying28 rfl (elm_info HE1.out)) ?_
      go_simp
      refine sched_take rfl (by rfl) (v := .agg c2.toArray) (fun w' hw' => exec_load_row 28 _ rfl g2 rfl 28 _ (0, 0) _ (HS.out.later hw').c2 Tryd.underlying28 rfl (elm_info HE2.out)) ?_
      go_simp
      refine sched_take rfl (by rfl) (v := .agg c1.toArray) (fun w' hw' => exec_load_row 28 _ rfl g1 rfl 28 _ (0, 0) _ (HS.out.later hw').c1 Tryd.underlying28 rfl (elm_info HE1.out)) ?_
      go_simp
      refine sched_take rfl (by rfl) (v := .agg c2.toArray) (fun w' hw' => exec_load_row 28 _ rfl g2 rfl 28 _ (0, 0) _ (HS.out.later hw').c2 Tryd.underlying28 rfl (elm_info HE2.out)) ?_
      go_simp
      refine sched_call (f := 15) (args := #[.agg c1.toArray, .agg c2.toArray]) rfl (by rfl) (by go_simp) ?_
      refine (fadd_any c1 c2 x y U3 HE1.out HE2.out).mono ?_
      rintro e U4 ⟨d3, rfl, he, hb⟩
      refine ⟨_, rfl, hb, ?_⟩
      obtain ⟨nd3, hn⟩ : ∃ n, (x + y) % P255 = n := ⟨_, rfl⟩
      rw [hn] at he
      have HEd3 : Hid (Elm d3 nd3) := he
      have HFd3 : Hid (FC nd3 ((x : Int) + (y : Int))) := by rw [← hn]; exact HF1.out.add HF2.out
      replace HS := hidup (HS.out.later hb)
      replace HSs := hidup (HSs.out.later hb)
      replace HSp := hidup (HSp.out.later hb)
      clear he hb hn
      go_simp
      refine sched_call (f := 17) (args := #[.agg d3.toArray, .agg c1.toArray]) rfl (by rfl) (by go_simp) ?_
      refine (fsub_any d3 c1 nd3 x U4 HEd3.out HE1.out (HTab.out.later HS.out.bel)).mono ?_
      rintro e U5 ⟨d4, rfl, he, hb⟩
      refine ⟨_, rfl, hb, ?_⟩
      obtain ⟨nd4, hn⟩ : ∃ n, (nd3 + (P255 - x)) % P255 = n := ⟨_, rfl⟩
      rw [hn] at he
      have HEd4 : Hid (Elm d4 nd4) := he
      have HFd4 : Hid (FC nd4 ((x : Int) + (y : Int) - (x : Int))) := by rw [← hn]; exact HFd3.out.sub HF1.out
      replace HS := hidup (HS.out.later hb)
      replace HSs := hidup (HSs.out.later hb)
      replace HSp := hidup (HSp.out.later hb)
      clear he hb hn
      go_simp
      refine sched_call (f := 13) (args := #[.agg d4.toArray]) rfl (by rfl) (by go_simp) ?_
      refine (fbytes_any d4 nd4 U5 HEd4.out).mono ?_
      rintro e U6 ⟨rfl, hb⟩
      refine ⟨_, rfl, hb, ?_⟩
      replace HS := hidup (HS.out.later hb)
      replace HSs := hidup (HSs.out.later hb)
      replace HSp := hidup (HSp.out.later hb)
      clear hb
      go_simp
      refine sched_call (f := 13) (args := #[.agg c2.toArray]) rfl (by rfl) (by go_simp) ?_
      refine (fbytes_any c2 y U6 HE2.out).mono ?_
      rintro e U7 ⟨rfl, hb⟩
      refine ⟨_, rfl, hb, ?_⟩
      replace HS := hidup (HS.out.later hb)
      replace HSs := hidup (HSs.out.later hb)
      replace HSp := hidup (HSp.out.later hb)
      clear hb
      go_simp
      have hq : Hid (nd4 = y) := FC.eq HFd4.out HF2.out (by omega)
      refine sched_take rfl (by rfl) (v := ?_) ?_ ?_; rotate_left; (intro w' hw'; clear hw'; have q1 := key_same w' nd4 y hq.out; go_simp; with_reducible rfl); go_simp
      clear hq
      iterate 2 (refine sched_take rfl (by rfl) (v := ?_) ?_ ?_; rotate_left; (intro w' hw'; clear hw'; go_simp; with_reducible rfl); go_simp)
      refine sched_done hKK ?_
      clear hKK
      (try go_wp2)
      go_ret
      exact ⟨rfl, HS.out.bel⟩
end Go.Proofs.YtgggdcliepgahaaDoor.fieldSmall
