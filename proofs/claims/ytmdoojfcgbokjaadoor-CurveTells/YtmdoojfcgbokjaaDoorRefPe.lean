/- The walk over the document's Parts. -/
import Derived.Test.YtmdoojfcgbokjaaDoorRefPd
namespace Go.Proofs.YtmdoojfcgbokjaaDoor
set_option linter.unusedVariables false
open Go.RowKit

/-- Two rows of the walk's own that grow beside each other. -/
structure Two (w : World) (a1 : Option Addr) (n1 c1 : Nat) (lo : List Nat) (a2 : Option Addr) (n2 c2 : Nat) (hi : List Nat) (wr : World) : Prop where
  s1 : Seg wr 3 a1 n1 c1 (lo.map iv)
  s2 : Seg wr 3 a2 n2 c2 (hi.map iv)
  ne : ∀ j, blockOf a1 = some j → blockOf a2 ≠ some j
  b1 : ∀ j, blockOf a1 = some j → w.heap.size ≤ j
  b2 : ∀ j, blockOf a2 = some j → w.heap.size ≤ j
  bel : Below w.heap.size w wr
theorem Two.swap {w wr : World} {a1 a2 : Option Addr} {n1 c1 n2 c2 : Nat} {lo hi : List Nat} (h : Two w a1 n1 c1 lo a2 n2 c2 hi wr) : Two w a2 n2 c2 hi a1 n1 c1 lo wr :=
  ⟨h.s2, h.s1, fun j h2 h1 => h.ne j h1 h2, h.b2, h.b1, h.bel⟩
theorem Two.app {w wr : World} {a1 a2 : Option Addr} {n1 c1 n2 c2 : Nat} {lo hi : List Nat} (h : Two w a1 n1 c1 lo a2 n2 c2 hi wr) (x : Nat) (hn : n1 ≤ 100000) :
    ∃ a' c' w2, (Builtin.append_ #[53, 53] 53 #[.slice a1 n1 c1, .slice (some ⟨wr.heap.size, 0, none⟩) 1 1]).run Tryd.prog (wr.alloc (.cells #[.int .i64 (x : Int)] 3)) = .ok (.slice a' (n1 + 1) c') w2 ∧ Two w a' (n1 + 1) c' (lo ++ [x]) a2 n2 c2 hi w2 := by
  obtain ⟨i0, hi0, hz0, hz1, hz2⟩ := info_parts Tryd.infoI64
  obtain ⟨a', c', w2, hr, hs, hg, hfr, hsz⟩ := append_seg (P := Tryd.prog) 53 53 3 i0 (.int .i64 0) 8 Tryd.underlying53 hi0 hz0 hz1 hz2 rfl wr a1 n1 c1 _ h.s1 (.int .i64 (x : Int)) rfl (by unfold maxLen; omega) (by omega)
  refine ⟨a', c', w2, hr, by rw [List.map_append]; exact hs, h.s2.kept fun g hg2 => hg.block g (h.s2.lt g hg2) (fun e => h.ne g e.symm hg2), ?_, ?_, h.b2, h.bel.grown hg h.bel.size h.b1⟩
  · intro j hj h2
    rcases hfr with e | e
    · exact h.ne j (by rw [← e]; exact hj) h2
    · have := e j hj
      have := h.s2.lt j h2
      omega
  · intro j hj
    rcases hfr with e | e
    · exact h.b1 j (by rw [← e]; exact hj)
    · have := e j hj
      have := h.bel.size
      omega
theorem Two.new (w : World) : Two w (some ⟨w.heap.size, 0, none⟩) 0 0 [] (some ⟨w.heap.size + 1, 0, none⟩) 0 0 [] ((w.alloc (.cells #[] 3)).alloc (.cells #[] 3)) := by
  refine ⟨⟨rfl, .inr ⟨w.heap.size, 0, #[], rfl, ?_, by simp, Nat.le_refl _, fun i hi => by omega⟩⟩, ⟨rfl, .inr ⟨w.heap.size + 1, 0, #[], rfl, ?_, by simp, Nat.le_refl _, fun i hi => by omega⟩⟩, ?_, ?_, ?_, ((Below.refl _ _).alloc (Nat.le_refl _) _).alloc (by simp) _⟩
  · rw [Below.heap_alloc _ _ _ (by simp)]; exact heap_alloc_new w _
  · have := heap_alloc_new (w.alloc (.cells #[] 3)) (.cells #[] 3)
    rwa [World.size_alloc] at this
  · intro j h1 h2
    simp [blockOf] at h1 h2
    omega
  · intro j h1; simp [blockOf] at h1; omega
  · intro j h1; simp [blockOf] at h1; omega

theorem Two.caps1 {w wr : World} {a1 a2 : Option Addr} {n1 c1 n2 c2 : Nat} {lo hi : List Nat} (h : Two w a1 n1 c1 lo a2 n2 c2 hi wr) : n1 ≤ c1 := by
  rcases h.s1.2 with ⟨_, h0, _⟩ | ⟨_, _, _, _, _, _, h0, _⟩ <;> omega
/-- A digit of what is above the cut, by two digits. -/
theorem high_at (l : List Nat) (hl : ∀ x ∈ l, x < 256) (q b k : Nat) (hb : b < 8) (hk : q ≤ k) : valD l / 2 ^ (8 * q + b) / 256 ^ (k - q) % 256 = atD l k / 2 ^ b + atD l (k + 1) * 2 ^ (8 - b) % 256 := by
  rw [high_digit _ _ _ _ hb, show q + (k - q) = k by omega, valD_at l hl, valD_at l hl]
theorem shl_one (b : Nat) (hb : b < 8) : (2 : Nat) ^ b ≤ 128 := by
  have := Nat.pow_le_pow_right (n := 2) (by decide) (show b ≤ 7 by omega)
  simpa using this

set_option maxHeartbeats 1000000 in
set_option maxRecDepth 100000 in
theorem refParts_any (a : Option Addr) (len cap : Nat) (l : List Nat) (q b : Nat) (w : World) (hA : Ints w a len l) (hdl : ∀ x ∈ l, x < 256) (hlm : len ≤ 20000) (hb : b < 8) (hq : q ≤ 10000) :
    Calls Tryd.prog 39 #[.slice a len cap, .int .i64 ((8 * q + b : Nat) : Int)] w fun e w' => ∃ a1 n1 c1 a2 n2 c2, e = .returned (.tuple #[.slice a1 n1 c1, .slice a2 n2 c2]) ∧ Below w.heap.size w w' ∧
      Ints w' a1 n1 (dig (valD l % 2 ^ (8 * q + b))) ∧ n1 ≤ c1 ∧ Ints w' a2 n2 (dig (valD l / 2 ^ (8 * q + b))) ∧ n2 ≤ c2 := by
  have hl := hA.1
  obtain ⟨N, hN⟩ : ∃ N, 8 * q + b = N := ⟨_, rfl⟩
  rw [hN]
  have e1 : (N : Int).tdiv 8 = (q : Int) := by rw [Int.tdiv_eq_ediv_of_nonneg (by omega)]; omega
  have e2 : (N : Int).tmod 8 = (b : Int) := by rw [Int.tmod_eq_emod_of_nonneg (by omega)]; omega
  have HT0 := Two.new w
  obtain ⟨c, hc8⟩ : ∃ c, 8 - b = c := ⟨_, rfl⟩
  have hci : (8 : Int) - (b : Int) = (c : Int) := by omega
  have hcp : 0 < c := by omega
  have hc9 : c ≤ 8 := by omega
  obtain ⟨P, hPn⟩ : ∃ P, 2 ^ b = P := ⟨_, rfl⟩
  have hPb : P ≤ 128 := by rw [← hPn]; exact shl_one b hb
  have hP0 : 0 < P := by rw [← hPn]; exact Nat.two_pow_pos b
  have hPi : (2 : Int) ^ b = (P : Int) := by rw [← hPn]; simp
  obtain ⟨C, hCn⟩ : ∃ C, 2 ^ c = C := ⟨_, rfl⟩
  have hCb : C ≤ 256 := by rw [← hCn]; exact (Nat.pow_le_pow_right (by decide) hc9 : 2 ^ c ≤ 2 ^ 8)
  have hCi : (2 : Int) ^ c = (C : Int) := by rw [← hCn]; simp
  have HA : Hid (Ints w a len l) := hA
  have HDL : Hid (∀ x ∈ l, x < 256) := hdl
  clear hA hdl
  go_enter Tryd.func39, Tryd.ntmps39
  go_wp2
  clear e1 e2
  go_loopw [6, 7, 10] (fun v1 v2 i wr => ∃ (k n1 c1 n2 c2 : Nat) (a1 a2 : Option Addr), k ≤ len ∧ i = .int .i64 k ∧ v1 = .slice a1 n1 c1 ∧ v2 = .slice a2 n2 c2 ∧ Hid (n1 = min k (q + 1)) ∧ Hid (n2 = k - q) ∧ Hid (Two w a1 n1 c1 (firstD (valD l % 2 ^ N) n1) a2 n2 c2 (firstD (valD l / 2 ^ N) n2) wr)) (fun _ _ i _ => len - (intOf i).toNat)
  case atStart => exact ⟨0, 0, 0, 0, 0, _, _, Nat.zero_le _, rfl, rfl, rfl, (by show _ = _; omega), (by show _ = _; omega), HT0⟩
  case round =>
    clear HT0
    obtain ⟨k, n1, c1, n2, c2, a1, a2, hk, rfl, rfl, rfl, h1, h2, hT⟩ := hrel
    have h1' := h1.out
    have h2' := h2.out
    by_cases hlt : k < len
    · obtain ⟨ba, offa, rfl, hc0⟩ := HA.out.at_ k hlt
      have hc : wr.cell? ⟨ba, offa + k, none⟩ = some (.int .i64 (atD l k : Int)) := by
        rw [hT.out.bel.cell (p := ⟨ba, offa + k, none⟩) (World.block_lt_of_cell? w _ hc0)]; exact hc0
      have hx := atD_lt l HDL.out k
      have hki : (k : Int) < (len : Int) := by omega
      by_cases hkq : k < q
      · have hkqi : (k : Int) < (q : Int) := by omega
        obtain ⟨a3, c3, w3, hap, hT3⟩ := hT.out.app (atD l k) (by omega)
        have HA3 : Hid (_) := hap
        have e1 : n1 = k := by omega
        have HE : Hid (firstD (valD l % 2 ^ N) n1 ++ [atD l k] = firstD (valD l % 2 ^ N) (n1 + 1)) := by
          show _ = _
          rw [firstD_succ, e1, ← hN, low_digit _ _ _ _ hkq, valD_at l HDL.out]
        rw [HE.out] at hT3
        have HT3 : Hid (Two w a3 (n1 + 1) c3 (firstD (valD l % 2 ^ N) (n1 + 1)) a2 n2 c2 (firstD (valD l / 2 ^ N) n2) w3) := hT3
        clear hap hT3 hT hc0 h1' h2' HE e1
        go_wp2_with (at_builtin; refine wpList_append_run rfl (.tmp 27) (.tmp 32) 53 rfl _ _ _ _ rfl rfl HA3.out ?_)
        exact ⟨⟨k + 1, n1 + 1, c3, n2, c2, a3, a2, by omega, by go_num, rfl, rfl, (by have := h1.out; show _ = _; omega), (by have := h2.out; show _ = _; omega), HT3⟩, by simp [intOf]; omega⟩
      · have hkqi : ¬ (k : Int) < (q : Int) := by omega
        by_cases hkq2 : k = q
        · subst hkq2
          have e1 : n1 = k := by omega
          obtain ⟨r, hr⟩ : ∃ r, atD l k % P = r := ⟨_, rfl⟩
          have hrb : r ≤ 255 := by rw [← hr]; exact Nat.le_trans (Nat.mod_le _ _) (by omega)
          have fr1 : (atD l k : Int) % (P : Int) = (r : Int) := by rw [← hr]; simp
          have fr2 : (atD l k : Int).tmod (P : Int) = (r : Int) := by rw [Int.tmod_eq_emod_of_nonneg (by omega)]; exact fr1
          obtain ⟨a3, c3, w3, hap, hT3⟩ := hT.out.app r (by omega)
          have HA3 : Hid (_) := hap
          have HE : Hid (firstD (valD l % 2 ^ N) n1 ++ [r] = firstD (valD l % 2 ^ N) (n1 + 1)) := by
            show _ = _
            rw [firstD_succ, e1, ← hN, cut_digit _ _ _ hb, valD_at l HDL.out, hPn, hr]
          rw [HE.out] at hT3
          have HT3 : Hid (Two w a3 (n1 + 1) c3 (firstD (valD l % 2 ^ N) (n1 + 1)) a2 n2 c2 (firstD (valD l / 2 ^ N) n2) w3) := hT3
          have hcw : w3.cell? ⟨ba, offa + k, none⟩ = some (.int .i64 (atD l k : Int)) := by
            rw [HT3.out.bel.cell (p := ⟨ba, offa + k, none⟩) (World.block_lt_of_cell? w _ hc0)]; exact hc0
          clear hap hT3 hT hc0 HE e1 hr
          obtain ⟨x1, hx1⟩ : ∃ x1, atD l k / P = x1 := ⟨_, rfl⟩
          have f1 : (atD l k : Int) / (P : Int) = (x1 : Int) := by rw [← hx1]; simp
          have hx1b : x1 ≤ 255 := by rw [← hx1]; exact Nat.le_trans (Nat.div_le_self _ _) (by omega)
          have HZ : Hid (valD l / 2 ^ N / 256 ^ n2 % 256 = x1 + atD l (k + 1) * C % 256) := by
            show _ = _
            rw [← hN, h2', high_at l HDL.out _ b k hb (by omega), hPn, hx1, hc8, hCn]
          by_cases hkl : k + 1 < len
          · obtain ⟨ba2, offa2, e, hc2⟩ := HA.out.at_ (k + 1) hkl
            cases e
            have hc3 : w3.cell? ⟨ba, offa + (k + 1), none⟩ = some (.int .i64 (atD l (k + 1) : Int)) := by
              rw [HT3.out.bel.cell (p := ⟨ba, offa + (k + 1), none⟩) (World.block_lt_of_cell? w _ hc2)]; exact hc2
            have hy := atD_lt l HDL.out (k + 1)
            obtain ⟨y1, hy1⟩ : ∃ y1, atD l (k + 1) * C = y1 := ⟨_, rfl⟩
            have hy1b : y1 ≤ 65280 := by rw [← hy1]; exact Nat.mul_le_mul (show atD l (k + 1) ≤ 255 by omega) hCb
            have f2 : (atD l (k + 1) : Int) * (C : Int) = (y1 : Int) := by rw [← hy1]; simp
            obtain ⟨y2, hy2⟩ : ∃ y2, y1 % 256 = y2 := ⟨_, rfl⟩
            have hy2b : y2 ≤ 255 := by omega
            have f3 : (y1 : Int).tmod 256 = (y2 : Int) := by rw [Int.tmod_eq_emod_of_nonneg (by omega)]; omega
            have f3' : (y1 : Int) % 256 = (y2 : Int) := by omega
            obtain ⟨z, hz⟩ : ∃ z, x1 + y2 = z := ⟨_, rfl⟩
            have hzb : z ≤ 510 := by omega
            have f4 : (x1 : Int) + (y2 : Int) = (z : Int) := by omega
            have hkl1 : (k : Int) + 1 < (len : Int) := by omega
            obtain ⟨a5, c5, w5, hap5, hT5⟩ := HT3.out.swap.app z (by omega)
            have HA5 : Hid (_) := hap5
            have HT5 : Hid (Two w a3 (n1 + 1) c3 (firstD (valD l % 2 ^ N) (n1 + 1)) a5 (n2 + 1) c5 (firstD (valD l / 2 ^ N) (n2 + 1)) w5) := by
              have := hT5.swap
              rw [firstD_succ (valD l / 2 ^ N) n2, HZ.out, hy1, hy2, hz]
              exact this
            clear hap5 hT5 hc2 h1' h2' HZ hx1 hy1 hy2 hz HT3
            go_wp2_with (at_builtin; first | refine wpList_append_run rfl (.tmp 37) (.tmp 46) 53 rfl _ _ _ _ rfl rfl HA3.out ?_ | refine wpList_append_run rfl (.tmp 72) (.tmp 74) 53 rfl _ _ _ _ rfl rfl HA5.out ?_)
            exact ⟨⟨k + 1, (n1 + 1), c3, n2 + 1, c5, a3, a5, by omega, by go_num, rfl, rfl, (by have := h1.out; show _ = _; omega), (by have := h2.out; show _ = _; omega), HT5⟩, by simp [intOf]; omega⟩
          · have hkl1 : ¬ (k : Int) + 1 < (len : Int) := by omega
            have h0 : atD l (k + 1) = 0 := atD_out l (k + 1) (by omega)
            obtain ⟨a5, c5, w5, hap5, hT5⟩ := HT3.out.swap.app x1 (by omega)
            have HA5 : Hid (_) := hap5
            have HT5 : Hid (Two w a3 (n1 + 1) c3 (firstD (valD l % 2 ^ N) (n1 + 1)) a5 (n2 + 1) c5 (firstD (valD l / 2 ^ N) (n2 + 1)) w5) := by
              have := hT5.swap
              rw [firstD_succ (valD l / 2 ^ N) n2, HZ.out, h0, Nat.zero_mul]
              exact this
            clear hap5 hT5 h1' h2' HZ hx1 h0 HT3
            go_wp2_with (at_builtin; first | refine wpList_append_run rfl (.tmp 37) (.tmp 46) 53 rfl _ _ _ _ rfl rfl HA3.out ?_ | refine wpList_append_run rfl (.tmp 72) (.tmp 74) 53 rfl _ _ _ _ rfl rfl HA5.out ?_)
            exact ⟨⟨k + 1, (n1 + 1), c3, n2 + 1, c5, a3, a5, by omega, by go_num, rfl, rfl, (by have := h1.out; show _ = _; omega), (by have := h2.out; show _ = _; omega), HT5⟩, by simp [intOf]; omega⟩
        · have hne : ¬ (k : Int) = (q : Int) := by omega
          clear hc0
          obtain ⟨x1, hx1⟩ : ∃ x1, atD l k / P = x1 := ⟨_, rfl⟩
          have f1 : (atD l k : Int) / (P : Int) = (x1 : Int) := by rw [← hx1]; simp
          have hx1b : x1 ≤ 255 := by rw [← hx1]; exact Nat.le_trans (Nat.div_le_self _ _) (by omega)
          have HZ : Hid (valD l / 2 ^ N / 256 ^ n2 % 256 = x1 + atD l (k + 1) * C % 256) := by
            show _ = _
            rw [← hN, h2', high_at l HDL.out _ b k hb (by omega), hPn, hx1, hc8, hCn]
          by_cases hkl : k + 1 < len
          · obtain ⟨ba2, offa2, e, hc2⟩ := HA.out.at_ (k + 1) hkl
            cases e
            have hc3 : wr.cell? ⟨ba, offa + (k + 1), none⟩ = some (.int .i64 (atD l (k + 1) : Int)) := by
              rw [hT.out.bel.cell (p := ⟨ba, offa + (k + 1), none⟩) (World.block_lt_of_cell? w _ hc2)]; exact hc2
            have hy := atD_lt l HDL.out (k + 1)
            obtain ⟨y1, hy1⟩ : ∃ y1, atD l (k + 1) * C = y1 := ⟨_, rfl⟩
            have hy1b : y1 ≤ 65280 := by rw [← hy1]; exact Nat.mul_le_mul (show atD l (k + 1) ≤ 255 by omega) hCb
            have f2 : (atD l (k + 1) : Int) * (C : Int) = (y1 : Int) := by rw [← hy1]; simp
            obtain ⟨y2, hy2⟩ : ∃ y2, y1 % 256 = y2 := ⟨_, rfl⟩
            have hy2b : y2 ≤ 255 := by omega
            have f3 : (y1 : Int).tmod 256 = (y2 : Int) := by rw [Int.tmod_eq_emod_of_nonneg (by omega)]; omega
            have f3' : (y1 : Int) % 256 = (y2 : Int) := by omega
            obtain ⟨z, hz⟩ : ∃ z, x1 + y2 = z := ⟨_, rfl⟩
            have hzb : z ≤ 510 := by omega
            have f4 : (x1 : Int) + (y2 : Int) = (z : Int) := by omega
            have hkl1 : (k : Int) + 1 < (len : Int) := by omega
            obtain ⟨a5, c5, w5, hap5, hT5⟩ := hT.out.swap.app z (by omega)
            have HA5 : Hid (_) := hap5
            have HT5 : Hid (Two w a1 n1 c1 (firstD (valD l % 2 ^ N) n1) a5 (n2 + 1) c5 (firstD (valD l / 2 ^ N) (n2 + 1)) w5) := by
              have := hT5.swap
              rw [firstD_succ (valD l / 2 ^ N) n2, HZ.out, hy1, hy2, hz]
              exact this
            clear hap5 hT5 hc2 h1' h2' HZ hx1 hy1 hy2 hz hT
            go_wp2_with (at_builtin; first | refine wpList_append_run rfl (.tmp 72) (.tmp 74) 53 rfl _ _ _ _ rfl rfl HA5.out ?_)
            exact ⟨⟨k + 1, n1, c1, n2 + 1, c5, a1, a5, by omega, by go_num, rfl, rfl, (by have := h1.out; show _ = _; omega), (by have := h2.out; show _ = _; omega), HT5⟩, by simp [intOf]; omega⟩
          · have hkl1 : ¬ (k : Int) + 1 < (len : Int) := by omega
            have h0 : atD l (k + 1) = 0 := atD_out l (k + 1) (by omega)
            obtain ⟨a5, c5, w5, hap5, hT5⟩ := hT.out.swap.app x1 (by omega)
            have HA5 : Hid (_) := hap5
            have HT5 : Hid (Two w a1 n1 c1 (firstD (valD l % 2 ^ N) n1) a5 (n2 + 1) c5 (firstD (valD l / 2 ^ N) (n2 + 1)) w5) := by
              have := hT5.swap
              rw [firstD_succ (valD l / 2 ^ N) n2, HZ.out, h0, Nat.zero_mul]
              exact this
            clear hap5 hT5 h1' h2' HZ hx1 h0 hT
            go_wp2_with (at_builtin; first | refine wpList_append_run rfl (.tmp 72) (.tmp 74) 53 rfl _ _ _ _ rfl rfl HA5.out ?_)
            exact ⟨⟨k + 1, n1, c1, n2 + 1, c5, a1, a5, by omega, by go_num, rfl, rfl, (by have := h1.out; show _ = _; omega), (by have := h2.out; show _ = _; omega), HT5⟩, by simp [intOf]; omega⟩
    · have hki : ¬ (k : Int) < (len : Int) := by omega
      have ek : k = len := by omega
      have hxlt : valD l < 256 ^ len := by rw [← hl]; exact valD_lt l HDL.out
      have HLo : Hid (valD (firstD (valD l % 2 ^ N) n1) = valD l % 2 ^ N) := by
        refine valD_firstD_all _ _ ?_
        by_cases hle : len ≤ q + 1
        · rw [h1', ek, Nat.min_eq_left hle]
          exact Nat.lt_of_le_of_lt (Nat.mod_le _ _) hxlt
        · rw [h1', ek, Nat.min_eq_right (by omega)]
          refine Nat.lt_of_lt_of_le (Nat.mod_lt _ (Nat.two_pow_pos _)) ?_
          rw [pow256, ← hN]
          exact Nat.pow_le_pow_right (by decide) (by omega)
      have HHi : Hid (valD (firstD (valD l / 2 ^ N) n2) = valD l / 2 ^ N) := by
        refine valD_firstD_all _ _ ?_
        rw [Nat.div_lt_iff_lt_mul (Nat.two_pow_pos _)]
        refine Nat.lt_of_lt_of_le hxlt ?_
        rw [pow256, pow256, ← Nat.pow_add]
        exact Nat.pow_le_pow_right (by decide) (by omega)
      have hI1 : Ints wr a1 n1 (firstD (valD l % 2 ^ N) n1) := Ints.ofSeg hT.out.s1
      have hI2 : Ints wr a2 n2 (firstD (valD l / 2 ^ N) n2) := Ints.ofSeg hT.out.s2
      have hn1c := hT.out.caps1
      have hn2c := hT.out.swap.caps1
      have HI1 : Hid (Ints wr a1 n1 (firstD (valD l % 2 ^ N) n1)) := hI1
      have HI2 : Hid (Ints wr a2 n2 (firstD (valD l / 2 ^ N) n2)) := hI2
      have hn1k : n1 ≤ 20000 := by omega
      have hn2k : n2 ≤ 20000 := by omega
      clear h1' h2' hI1 hI2 hxlt
      go_wp2_with fail
      refine (refTrim_any a1 n1 c1 _ wr HI1.out (firstD_lt _ _) hn1c (by omega)).mono ?_
      rintro e w5 ⟨m1, rfl, rfl, hm1, hR1⟩
      have HR1 : Hid (Ints w5 a1 m1 (dig (valD l % 2 ^ N))) := by
        rw [HLo.out] at hR1
        rw [← hR1]
        exact HI1.out.cut hm1
      clear hR1
      go_wp2_with fail
      refine (refTrim_any a2 n2 c2 _ w5 HI2.out (firstD_lt _ _) hn2c (by omega)).mono ?_
      rintro e w6 ⟨m2, rfl, rfl, hm2, hR2⟩
      have HR2 : Hid (Ints w6 a2 m2 (dig (valD l / 2 ^ N))) := by
        rw [HHi.out] at hR2
        rw [← hR2]
        exact HI2.out.cut hm2
      clear hR2
      go_wp2
      go_ret2
      exact ⟨a1, m1, c1, a2, m2, c2, rfl, hT.out.bel, HR1.out, by omega, HR2.out, by omega⟩
end Go.Proofs.YtmdoojfcgbokjaaDoor
