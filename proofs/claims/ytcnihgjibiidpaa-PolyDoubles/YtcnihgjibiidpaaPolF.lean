/- The walks over the program's least and tag. -/
import Derived.Test.YtcnihgjibiidpaaPolE
import Derived.Laws.Externs
namespace Go.Proofs.Ytcnihgjibiidpaa
set_option linter.unusedVariables false
open Go.RowKit

theorem add64 (x y c : Int) (hx : 0 ≤ x) (hy : 0 ≤ y) (hc0 : 0 ≤ c) (hc : c ≤ 1) (w : World) : (callFunc 44 #[.int .u64 x, .int .u64 y, .int .u64 c]).run Try.prog w =
    .ok (.value (.tuple #[.int .u64 ((x + y + c) % 18446744073709551616), .int .u64 ((x + y + c) / 18446744073709551616)])) w := by
  rw [run_callFunc_extern Try.func44 (by kernel_rfl) (by kernel_rfl) (by kernel_rfl) (e := add64Entry) (by kernel_rfl), run_add64 x y c hx hy hc0 hc]
  rfl
theorem add64_nat (x y c s o : Nat) (hc : c ≤ 1) (hs : (x + y + c) % 18446744073709551616 = s) (ho : (x + y + c) / 18446744073709551616 = o) (w : World) : (callFunc 44 #[.int .u64 (x : Int), .int .u64 (y : Int), .int .u64 (c : Int)]).run Try.prog w =
    .ok (.value (.tuple #[.int .u64 (s : Int), .int .u64 (o : Int)])) w := by
  have e1 : ((x : Int) + (y : Int) + (c : Int)) % 18446744073709551616 = (s : Int) := by omega
  have e2 : ((x : Int) + (y : Int) + (c : Int)) / 18446744073709551616 = (o : Int) := by omega
  rw [add64 _ _ _ (by omega) (by omega) (by omega) (by omega), e1, e2]
theorem pow26 : (67108864 : Nat) ^ 5 = 2 ^ 130 := by decide
theorem or_sum (x y m : Nat) (z : Int) (hz : z = ((y * 2 ^ m : Nat) : Int)) (hx : x < 2 ^ m) (hy : x + y * 2 ^ m < 18446744073709551616) : bits .or .u64 (x : Int) z = ((x + y * 2 ^ m : Nat) : Int) := by
  rw [hz, or_val64 x (y * 2 ^ m) (by omega) (by omega), Nat.or_comm, or_far y x m hx, Nat.add_comm]
theorem low_word (a b c : Nat) (ha : a < 67108864) (hb : b < 67108864) (hc : c < 67108864) :
    bits .or .u64 (bits .or .u64 (a : Int) ((b : Int) * 67108864)) (IntKind.u64.wrap ((c : Int) * 4503599627370496)) = ((a + b * 67108864 + c % 4096 * 4503599627370496 : Nat) : Int) := by
  rw [or_sum a b 26 ((b : Int) * 67108864) (by simp) (by omega) (by omega)]
  exact or_sum (a + b * 67108864) (c % 4096) 52 _ (by rw [IntKind.wrap_u64]; omega) (by omega) (by omega)
theorem high_word (c d e : Nat) (hc : c < 67108864) (hd : d < 67108864) (he : e < 67108864) :
    bits .or .u64 (bits .or .u64 ((c : Int) / 4096) ((d : Int) * 16384)) (IntKind.u64.wrap ((e : Int) * 1099511627776)) = ((c / 4096 + d * 16384 + e % 16777216 * 1099511627776 : Nat) : Int) := by
  rw [show (c : Int) / 4096 = ((c / 4096 : Nat) : Int) by omega, or_sum (c / 4096) d 14 ((d : Int) * 16384) (by simp) (by omega) (by omega)]
  exact or_sum (c / 4096 + d * 16384) (e % 16777216) 40 _ (by rw [IntKind.wrap_u64]; omega) (by omega) (by omega)

set_option maxHeartbeats 400000 in
set_option maxRecDepth 100000 in
theorem least_any (a b c d e : Nat) (w : World) (ha : a < 67108864) (hb : b < 67108864) (hc : c < 67108864) (hd : d < 67108864) (he : e < 67108864) (W : Nat) (hW : valL [a, b, c, d, e] % P1305 = W) :
    Calls Try.prog 43 #[.agg ([a, b, c, d, e].map nv).toArray] w fun x w' => x = .returned (.tuple #[.int .u64 ((W % 18446744073709551616 : Nat) : Int), .int .u64 ((W / 18446744073709551616 % 18446744073709551616 : Nat) : Int)]) ∧ Below w.heap.size w w' := by
  show Calls Try.prog 43 #[.agg #[.int .u64 (a : Int), .int .u64 (b : Int), .int .u64 (c : Int), .int .u64 (d : Int), .int .u64 (e : Int)]] w _
  obtain ⟨e1, e2, e3⟩ := least_five a b c d e ha hb hc hd he
  have HL0 := low_word a b c ha hb hc
  have HH0 := high_word c d e hc hd he
  rw [e1] at HL0
  rw [e2] at HH0
  have hVb := valL_lt [a, b, c, d, e] (by simp; omega)
  rw [show [a, b, c, d, e].length = 5 from rfl, pow26] at hVb
  have hT0 : (e : Int) / 16777216 = ((e / 16777216 : Nat) : Int) := by omega
  rw [e3] at hT0
  obtain ⟨V, hV⟩ : ∃ V, valL [a, b, c, d, e] = V := ⟨_, rfl⟩
  rw [hV] at HL0 HH0 hVb hW hT0
  obtain ⟨W', hW', hlo, hhi⟩ := tag_words V 0 hVb
  rw [hW] at hW'
  subst hW'
  obtain ⟨L, hL⟩ : ∃ L, V % 18446744073709551616 = L := ⟨_, rfl⟩
  obtain ⟨H, hH⟩ : ∃ H, V / 18446744073709551616 % 18446744073709551616 = H := ⟨_, rfl⟩
  obtain ⟨T, hT⟩ : ∃ T, V / 340282366920938463463374607431768211456 = T := ⟨_, rfl⟩
  rw [hL] at HL0
  rw [hH] at HH0
  rw [hT] at hT0
  obtain ⟨ML, hML⟩ : ∃ ML, (L + 5) % 18446744073709551616 = ML := ⟨_, rfl⟩
  obtain ⟨C1, hC1⟩ : ∃ C1, (L + 5) / 18446744073709551616 = C1 := ⟨_, rfl⟩
  obtain ⟨MH, hMH⟩ : ∃ MH, (H + C1) % 18446744073709551616 = MH := ⟨_, rfl⟩
  obtain ⟨C2, hC2⟩ : ∃ C2, (H + C1) / 18446744073709551616 = C2 := ⟨_, rfl⟩
  have hLb : L < 18446744073709551616 := by omega
  have hHb : H < 18446744073709551616 := by omega
  have hC1b : C1 ≤ 1 := by omega
  have hC2b : C2 ≤ 1 := by omega
  have hTb : T < 4 := by omega
  have A1 : ∀ w', (callFunc 44 #[.int .u64 (L : Int), .int .u64 5, .int .u64 0]).run Try.prog w' = .ok (.value (.tuple #[.int .u64 (ML : Int), .int .u64 (C1 : Int)])) w' := add64_nat L 5 0 ML C1 (by omega) (by omega) (by omega)
  have A2 : ∀ w', (callFunc 44 #[.int .u64 (H : Int), .int .u64 0, .int .u64 (C1 : Int)]).run Try.prog w' = .ok (.value (.tuple #[.int .u64 (MH : Int), .int .u64 (C2 : Int)])) w' := add64_nat H 0 C1 MH C2 (by omega) (by omega) (by omega)
  have HL : Hid _ := HL0
  have HH : Hid _ := HH0
  have HT : Hid _ := hT0
  have HBel : Hid (Below w.heap.size w (w.alloc (.cells #[.int .u64 (a : Int), .int .u64 (b : Int), .int .u64 (c : Int), .int .u64 (d : Int), .int .u64 (e : Int)] 51))) := (Below.refl _ _).alloc (Nat.le_refl _) _
  by_cases hov : 2 ^ 130 ≤ V + 5
  · obtain ⟨r1, r2⟩ := hhi hov
    have htc : 3 < (T : Int) + (C2 : Int) := by omega
    have R1 : Hid (W' % 18446744073709551616 = ML) := by show _ = _; rw [r1]; omega
    have R2 : Hid (W' / 18446744073709551616 % 18446744073709551616 = MH) := by show _ = _; rw [r2]; omega
    clear HL0 HH0 hT0 e1 e2 e3 hVb hV hW hlo hhi hL hH hT hML hC1 hMH hC2 r1 r2 hov
    go_enter Try.func43, Try.ntmps43
    go_wp2_with fail
    rw [HL.out, HH.out, HT.out]
    simp only [A1]
    go_wp2_with (first | simp only [A2])
    go_ret2
    exact ⟨by rw [R1.out, R2.out]; rfl, HBel.out⟩
  · obtain ⟨r1, r2⟩ := hlo (by omega)
    have htc : ¬ 3 < (T : Int) + (C2 : Int) := by omega
    have R1 : Hid (W' % 18446744073709551616 = L) := by show _ = _; rw [r1]; omega
    have R2 : Hid (W' / 18446744073709551616 % 18446744073709551616 = H) := by show _ = _; rw [r2]; omega
    clear HL0 HH0 hT0 e1 e2 e3 hVb hV hW hlo hhi hL hH hT hML hC1 hMH hC2 r1 r2 hov
    go_enter Try.func43, Try.ntmps43
    go_wp2_with fail
    rw [HL.out, HH.out, HT.out]
    simp only [A1]
    go_wp2_with (first | simp only [A2])
    go_ret2
    exact ⟨by rw [R1.out, R2.out]; rfl, HBel.out⟩

/-- The number and the key, each in a block, and the place of the answer. -/
structure TG (w : World) (l : List Nat) (key : List UInt8) (W : World) : Prop where
  num : Num W w.heap.size l
  key : Arr W (w.heap.size + 1) 23 key
  res : Arr W (w.heap.size + 1 + 1) 26 (List.replicate 16 0)
  bel : Below w.heap.size w W
theorem TG.new (w : World) (l : List Nat) (key : List UInt8) : TG w l key (((w.alloc (.cells (l.map nv).toArray 51)).alloc (.cells (key.map bv).toArray 23)).alloc (.cells ((List.replicate 16 0).map bv).toArray 26)) := by
  have h0 : Num (w.alloc (.cells (l.map nv).toArray 51)) w.heap.size l := heap_alloc_new w _
  have h1 := Arr.new (w.alloc (.cells (l.map nv).toArray 51)) 23 key
  have h2 := Arr.new ((w.alloc (.cells (l.map nv).toArray 51)).alloc (.cells (key.map bv).toArray 23)) 26 (List.replicate 16 0)
  rw [World.size_alloc] at h1
  rw [World.size_alloc, World.size_alloc] at h2
  exact ⟨(h0.alloc _).alloc _, h1.alloc _, h2, (((Below.refl _ _).alloc (Nat.le_refl _) _).alloc (by simp) _).alloc (by simp <;> omega) _⟩
theorem TG.later {w W W' : World} {l : List Nat} {key : List UInt8} (t : TG w l key W) (hb : Below W.heap.size W W') : TG w l key W' :=
  ⟨t.num.later hb, t.key.later hb, t.res.later hb, t.bel.trans (hb.mono t.bel.size)⟩
/-- An array of bytes out of wherever the bytes lie. -/
theorem run_loadVar_byt (W : World) (ty : TypeId) (b off n m : Nat) (e : TypeId) (l : List UInt8) (hB : Byt W (some ⟨b, off, none⟩) n l) (hu : Try.prog.underlying ty = some (.array m e)) (hi : (Try.prog.info? ty).map (·.size) = some n) :
    (loadVar ty ⟨b, off, none⟩).run Try.prog W = .ok (.agg (l.map bv).toArray) W := by
  have hl := hB.1
  have hld : (loadCells ⟨b, off, none⟩ n).run Try.prog W = .ok (l.map bv).toArray W := by
    have := run_loadCells_list (P := Try.prog) W ⟨b, off, none⟩ (l.map bv) (fun j v hv => hB.cells _ rfl j v hv)
    rw [List.length_map, hl] at this
    exact this
  cases hq : Try.prog.info? ty with
  | none => simp [hq] at hi
  | some i =>
    have hs : i.size = n := by simpa [hq] using hi
    have hagg : (isAgg ty).run Try.prog W = .ok true W := by
      unfold isAgg
      rw [Sem.run_bind, run_underlying hu W]
      simp
    simp [loadVar, Sem.run_bind, hagg, sizeOf, typeInfo, hq, hs, hld]
theorem wpList_load_byt {ops : Array Oper} {rest : List Oper} {o : Oper} {a : Act} {W : World} {Q : Exit → Act → World → Prop} (hgd : o.guard = none) (ty : TypeId) (x : Operand) (ho : o.op = .load ty x)
    (b off n m : Nat) (e : TypeId) (l : List UInt8) (hx : a.eval x = .pointer (some ⟨b, off, none⟩)) (hB : Byt W (some ⟨b, off, none⟩) n l) (hu : Try.prog.underlying ty = some (.array m e)) (hi : (Try.prog.info? ty).map (·.size) = some n)
    (h : wpList Try.prog ops Q rest (a.put o.dst (.agg (l.map bv).toArray)) W) : wpList Try.prog ops Q (o :: rest) a W := by
  refine wpList_plain hgd fun K hK => ?_
  unfold Oper.wp execOp
  simp only [ho, hx, Instr.loadAt, Instr.sureAddr, Sem.run_bind, Sem.run_pure, Result.andThen_ok, run_loadVar_byt W ty b off n m e l hB hu hi]
  exact hK _ _ h
theorem arr16_info (l : List UInt8) (hl : l.length = 16) : (Try.prog.info? 26).map (·.size) = some (l.map bv).toArray.size := by
  have e1 : (Try.prog.info? 26).map (·.size) = some 16 := by kernel_rfl
  rw [e1]; simp [hl]
theorem leB_two : ∀ a b n, leB (a + b) n = leB a n ++ leB b (n / 256 ^ a)
  | 0, b, n => by simp [leB]
  | a + 1, b, n => by
    rw [show a + 1 + b = (a + b) + 1 by omega, leB, leB, leB_two a b (n / 256), Nat.div_div_eq_div_mul, Nat.pow_succ, Nat.mul_comm 256]
    rfl
theorem leB_mod : ∀ a n, leB a (n % 256 ^ a) = leB a n
  | 0, n => rfl
  | a + 1, n => by
    have e1 : n % 256 ^ (a + 1) % 256 = n % 256 := by rw [Nat.pow_succ, Nat.mul_comm]; exact Nat.mod_mul_right_mod n 256 _
    have e2 : n % 256 ^ (a + 1) / 256 = n / 256 % 256 ^ a := by rw [Nat.pow_succ, Nat.mul_comm]; exact Nat.mod_mul_right_div_self n 256 _
    rw [leB, leB, e1, e2, leB_mod a]
theorem tag_bytes (A S LW C HW : Nat) (hS : S < 340282366920938463463374607431768211456) (h1 : (A % 18446744073709551616 + S % 18446744073709551616) % 18446744073709551616 = LW) (h2 : (A % 18446744073709551616 + S % 18446744073709551616) / 18446744073709551616 = C)
    (h3 : (A / 18446744073709551616 % 18446744073709551616 + S / 18446744073709551616 + C) % 18446744073709551616 = HW) : putB 8 LW false ++ putB 8 HW false = leB 16 (A + S) := by
  have e := leB_two 8 8 (A + S)
  have m1 := leB_mod 8 (A + S)
  have m2 := leB_mod 8 ((A + S) / 256 ^ 8)
  have hp : (256 : Nat) ^ 8 = 18446744073709551616 := by decide
  rw [hp] at e m1 m2
  have k1 : (A + S) % 18446744073709551616 = LW := by omega
  have k2 : (A + S) / 18446744073709551616 % 18446744073709551616 = HW := by omega
  rw [k1] at m1
  rw [k2] at m2
  show leB 8 LW ++ leB 8 HW = _
  rw [e, m1, m2]
theorem least_list (l : List Nat) (w : World) (hl : l.length = 5) (hb : ∀ x ∈ l, x < 67108864) (A LO HI : Nat) (hA : valL l % P1305 = A) (h1 : A % 18446744073709551616 = LO) (h2 : A / 18446744073709551616 % 18446744073709551616 = HI) :
    Calls Try.prog 43 #[.agg (l.map nv).toArray] w fun x w' => x = .returned (.tuple #[.int .u64 (LO : Int), .int .u64 (HI : Int)]) ∧ Below w.heap.size w w' := by
  obtain ⟨a, b, c, d, e, rfl⟩ := five l hl
  simp only [List.mem_cons, List.not_mem_nil, or_false, forall_eq_or_imp, forall_eq] at hb
  obtain ⟨ha, hb, hc, hd, he⟩ := hb
  have := least_any a b c d e w ha hb hc hd he A hA
  rw [h1, h2] at this
  exact this
theorem polyS_words (key : List UInt8) : getV key false 16 8 = polyS key % 18446744073709551616 ∧ getV key false 24 8 = polyS key / 18446744073709551616 := by
  have h0 : polyS key = leN key / 256 ^ 16 % 256 ^ 16 := leN_cut key 16 16
  rw [getV_cut, getV_cut, h0]
  generalize leN key = N
  have p1 : (256 : Nat) ^ 16 = 340282366920938463463374607431768211456 := by decide
  have p2 : (256 : Nat) ^ 8 = 18446744073709551616 := by decide
  have p3 : (256 : Nat) ^ 24 = 6277101735386680763835789423207666416102355444464034512896 := by decide
  rw [p1, p2, p3]
  omega

set_option maxHeartbeats 400000 in
set_option maxRecDepth 100000 in
theorem tag_any (l : List Nat) (key : List UInt8) (w : World) (hl : l.length = 5) (hb : ∀ x ∈ l, x < 67108864) (hk : key.length = 32) :
    Calls Try.prog 28 #[.agg (l.map nv).toArray, .agg (key.map bv).toArray] w fun e w' => e = .returned (.agg ((leB 16 (valL l % P1305 + polyS key)).map bv).toArray) ∧ Below w.heap.size w w' := by
  have IN : Hid ((Try.prog.info? 51).map (·.size) = some (l.map nv).toArray.size) := num_info l hl
  go_enter Try.func28, Try.ntmps28
  go_wp2_with (first | (refine wpList_load_row rfl 51 _ rfl w.heap.size rfl 51 _ (0, 0) _ (TG.new w l key).num Try.underlying51 rfl IN.out ?_))
  obtain ⟨A, hA⟩ : ∃ A, valL l % P1305 = A := ⟨_, rfl⟩
  obtain ⟨S, hS⟩ : ∃ S, polyS key = S := ⟨_, rfl⟩
  obtain ⟨LO, hLO⟩ : ∃ LO, A % 18446744073709551616 = LO := ⟨_, rfl⟩
  obtain ⟨HI, hHI⟩ : ∃ HI, A / 18446744073709551616 % 18446744073709551616 = HI := ⟨_, rfl⟩
  obtain ⟨s0, s1⟩ := polyS_words key
  have hSb := polyS_lt key
  rw [hS] at s0 s1 hSb
  have hSb' : S < 340282366920938463463374607431768211456 := hSb
  obtain ⟨S0, hS0⟩ : ∃ S0, S % 18446744073709551616 = S0 := ⟨_, rfl⟩
  obtain ⟨S1, hS1⟩ : ∃ S1, S / 18446744073709551616 = S1 := ⟨_, rfl⟩
  rw [hS0] at s0
  rw [hS1] at s1
  obtain ⟨LW, hLW⟩ : ∃ LW, (LO + S0) % 18446744073709551616 = LW := ⟨_, rfl⟩
  obtain ⟨C, hC⟩ : ∃ C, (LO + S0) / 18446744073709551616 = C := ⟨_, rfl⟩
  obtain ⟨HW, hHW⟩ : ∃ HW, (HI + S1 + C) % 18446744073709551616 = HW := ⟨_, rfl⟩
  obtain ⟨D, hD⟩ : ∃ D, (HI + S1 + C) / 18446744073709551616 = D := ⟨_, rfl⟩
  have HE : Hid (putB 8 LW false ++ putB 8 HW false = leB 16 (A + S)) := tag_bytes A S LW C HW hSb' (by rw [hLO, hS0]; exact hLW) (by rw [hLO, hS0]; exact hC) (by rw [hHI, hS1]; exact hHW)
  have A1 : ∀ w', (callFunc 44 #[.int .u64 (LO : Int), .int .u64 (S0 : Int), .int .u64 0]).run Try.prog w' = .ok (.value (.tuple #[.int .u64 (LW : Int), .int .u64 (C : Int)])) w' := add64_nat LO S0 0 LW C (by omega) (by omega) (by omega)
  have A2 : ∀ w', (callFunc 44 #[.int .u64 (HI : Int), .int .u64 (S1 : Int), .int .u64 (C : Int)]).run Try.prog w' = .ok (.value (.tuple #[.int .u64 (HW : Int), .int .u64 (D : Int)])) w' := add64_nat HI S1 C HW D (by omega) (by omega) (by omega)
  have HAS : Hid (leB 16 (valL l % P1305 + polyS key) = leB 16 (A + S)) := by show _ = _; rw [hA, hS]
  refine (least_list l _ hl hb A LO HI hA hLO hHI).mono ?_
  rintro e w1 ⟨rfl, hb1⟩
  have HT1 : Hid (TG w l key w1) := (TG.new w l key).later hb1
  have HK1 : Hid (Byt w1 (some ⟨w.heap.size + 1, 0, none⟩) 32 key) := HT1.out.key.byt 32 hk
  clear hb1 hA hS hLO hHI hSb hSb' hS0 hS1 hLW hC hHW hD
  go_wp2_with fail
  refine (get_yes (w.heap.size + 1) 0 32 32 16 8 false key _ (by unfold maxLen; omega) (by omega) HK1.out (by omega) (by omega) (by omega)).mono ?_
  rintro e w2 ⟨rfl, rfl⟩
  rw [s0]
  go_wp2_with fail
  refine (get_yes (w.heap.size + 1) 0 32 32 24 8 false key _ (by unfold maxLen; omega) (by omega) HK1.out (by omega) (by omega) (by omega)).mono ?_
  rintro e w3 ⟨rfl, rfl⟩
  rw [s1]
  go_wp2_with (first | rw [A1] | rw [A2])
  refine (put_any none 0 0 8 LW false [] _ (by omega) ⟨rfl, .inl rfl⟩ 8 (by decide)).mono ?_
  rintro e w4 ⟨g4, rfl, hg4, hb4, hB4⟩
  have HT4 : Hid (TG w l key w4) := HT1.out.later hb4
  have HB4 : Hid (Byt w4 (some ⟨g4, 0, none⟩) 8 (putB 8 LW false)) := hB4
  clear hb4 hB4
  go_wp2_with fail
  refine (put_any (some ⟨g4, 0, none⟩) 8 8 8 HW false _ _ (by omega) HB4.out 8 (by decide)).mono ?_
  rintro e w5 ⟨g5, rfl, hg5, hb5, hB5⟩
  have HT5 : Hid (TG w l key w5) := HT4.out.later hb5
  have hB5' : Byt w5 (some ⟨g5, 0, none⟩) 16 (leB 16 (A + S)) := by rw [← HE.out]; exact hB5
  obtain ⟨T, hT⟩ : ∃ T, leB 16 (A + S) = T := ⟨_, rfl⟩
  have hTl : T.length = 16 := by rw [← hT, leB_length]
  rw [hT] at hB5'
  have HT : Hid (leB 16 (valL l % P1305 + polyS key) = T) := HAS.out.trans hT
  have hat : (Instr.arrayAt 26 (.slice (some ⟨g5, 0, none⟩) 16 16)).run Try.prog w5 = .ok (.pointer (some ⟨g5, 0, none⟩)) w5 := by simp [Instr.arrayAt, run_underlying Try.underlying26]
  have HB5 : Hid (Byt w5 (some ⟨g5, 0, none⟩) 16 T) := hB5'
  have IT : Hid ((Try.prog.info? 26).map (·.size) = some (T.map bv).toArray.size) := arr16_info T hTl
  have hst := store_row w5 (w.heap.size + 1 + 1) _ _ (T.map bv) HT5.out.res (by simp [hTl]) (bv_oneCell T)
  have hrow := setRow_heap w5 (w.heap.size + 1 + 1) _ (T.map bv).toArray _ _ HT5.out.res
  have HBel : Hid (Below w.heap.size w (w5.setRow (w.heap.size + 1 + 1) (T.map bv).toArray)) := below_setRow HT5.out.bel (by omega) _
  obtain ⟨W4, hW4⟩ : ∃ W4, w5.setRow (w.heap.size + 1 + 1) (T.map bv).toArray = W4 := ⟨_, rfl⟩
  rw [hW4] at hst hrow HBel
  have HRow : Hid (W4.heap[w.heap.size + 1 + 1]? = some (.cells (T.map bv).toArray 26 (0, 0))) := hrow
  clear hb5 hB5 hrow hW4 hT hB5'
  go_wp2_with (first | refine wpList_load_byt rfl 26 _ rfl g5 0 16 16 5 T rfl HB5.out Try.underlying26 (by kernel_rfl) ?_)
  (try simp only [Exit.inBlock, Exit.then])
  refine bodyPost_ret (results_cell_row rfl _ _ (w.heap.size + 1 + 1) 26 _ (0, 0) _ rfl HRow.out Try.underlying26 rfl IT.out) rfl ?_
  exact ⟨by rw [HT.out], HBel.out⟩
end Go.Proofs.Ytcnihgjibiidpaa
