/- The program's numbers and attributes, behind others (stage 12). -/
import Derived.Test.YtejbhjcopldekaaNewB
import Derived.Test.YtejbhjcopldekaaWalkC
import Derived.Test.YtejbhjcopldekaaAppZ
import Derived.Test.YtejbhjcopldekaaMathStuB
import Derived.Recover
namespace Go.Proofs.Ytejbhjcopldekaa
set_option linter.unusedVariables false
set_option maxRecDepth 100000
open Go.RowKit

theorem uhid {p : Prop} (h : p) : Hid p := h
/-- A panic with an error of the program's. -/
abbrev span (er : Nat) : Ending := .panicked [{ v := .iface 33 (.int .i64 (er : Int)), recovered := false }]
theorem smust_ok (er : Int) (w : World) : Calls Try.prog 22 #[.bool true, .int .i64 er] w fun e w' => (∃ v, e = .returned v) ∧ w' = w := by
  go_enter Try.func22, Try.ntmps22
  go_wp2
  refine bodyPost_end (results_none rfl _ _ _) rfl ?_
  exact ⟨⟨_, rfl⟩, rfl⟩
theorem smust_no (er : Nat) (w : World) : Calls Try.prog 22 #[.bool false, .int .i64 (er : Int)] w fun e w' => e = span er ∧ w' = w := by
  go_enter Try.func22, Try.ntmps22
  go_wp2
  exact ⟨rfl, rfl, rfl⟩
theorem isNumber_any (n : Int) (w : World) : Calls Try.prog 43 #[.int .i64 n] w fun e w' => e = .returned (.bool (decide (0 ≤ n ∧ n ≤ 65535))) ∧ w' = w := by
  by_cases h0 : 0 ≤ n
  · by_cases h1 : n ≤ 65535
    · have hd : decide (0 ≤ n ∧ n ≤ 65535) = true := decide_eq_true ⟨h0, h1⟩
      rw [hd]
      clear hd
      go_enter Try.func43, Try.ntmps43
      go_wp2
      go_ret
      exact ⟨rfl, rfl⟩
    · have hd : decide (0 ≤ n ∧ n ≤ 65535) = false := decide_eq_false (fun h => h1 h.2)
      rw [hd]
      clear hd
      go_enter Try.func43, Try.ntmps43
      go_wp2
      go_ret
      exact ⟨rfl, rfl⟩
  · have hd : decide (0 ≤ n ∧ n ≤ 65535) = false := decide_eq_false (fun h => h0 h.1)
    rw [hd]
    clear hd
    go_enter Try.func43, Try.ntmps43
    go_wp2
    go_ret
    exact ⟨rfl, rfl⟩
theorem fill_any (n : Nat) (w : World) (h : n ≤ 1000000) : Calls Try.prog 56 #[.int .i64 (n : Int)] w fun e w' => e = .returned (.int .i64 (((4 - n % 4) % 4 : Nat) : Int)) ∧ w' = w := by
  have h1 : (n : Int).tmod 4 = ((n % 4 : Nat) : Int) := by rw [Int.tmod_eq_emod_of_nonneg (by omega)]; omega
  have h2 : ((4 : Int) - ((n % 4 : Nat) : Int)).tmod 4 = (((4 - n % 4) % 4 : Nat) : Int) := by rw [Int.tmod_eq_emod_of_nonneg (by omega)]; omega
  obtain ⟨r, hr⟩ : ∃ r, n % 4 = r := ⟨_, rfl⟩
  have hr4 : r < 4 := by omega
  rw [hr] at h1 h2
  rw [hr]
  obtain ⟨q, hq⟩ : ∃ q, (4 - r) % 4 = q := ⟨_, rfl⟩
  rw [hq] at h2
  rw [hq]
  clear hr hq
  go_enter Try.func56, Try.ntmps56
  go_wp2
  go_ret
  exact ⟨rfl, rfl⟩

set_option maxHeartbeats 400000 in
theorem put_new (a : Option Addr) (len cap : Nat) (size : Int) (n : Nat) (big : Bool) (l : List UInt8) (w : World) (hm : len ≤ 1000000)
    (hB : Byt w a len l) (sz : Nat) (hsz : (sz : Int) = min (max size 0) 8) :
    Calls Try.prog 55 #[.slice a len cap, .int .i64 size, .int .u64 (n : Int), .bool big] w fun e w' => ∃ g, e = .returned (.slice (some ⟨g, 0, none⟩) (len + sz) (len + sz)) ∧ NewB w w' (.slice (some ⟨g, 0, none⟩) (len + sz) (len + sz)) (l ++ putB sz n big) := by
  have hB' := hB
  obtain ⟨hl, hB⟩ := hB
  obtain ⟨mx, e1⟩ : ∃ mx : Int, (if size < 0 then (0 : Int) else size) = mx := ⟨_, rfl⟩
  have e2 : (if 8 < mx then (8 : Int) else mx) = (sz : Int) := by rw [hsz, ← e1]; split <;> split <;> omega
  have hs8 : sz ≤ 8 := by omega
  clear hsz
  go_enter Try.func55, Try.ntmps55
  obtain ⟨Z, hZl, hmk⟩ := make_bytes w len sz (by omega)
  obtain ⟨w2, hcp, hown2, hb2⟩ := copy_bytes w a len cap sz l hB' Z hZl (by unfold maxLen; omega)
  obtain ⟨i0, hi, hz0, hz1, hz2⟩ := info_parts Try.infoU8
  have hbd2 := hb2.size
  go_wp2
  go_loopw [9, 25] (fun v i wr => ∃ k : Nat, k ≤ sz ∧ i = .int .i64 k ∧ v = .slice (some ⟨w.heap.size, 0, none⟩) (len + k) (len + sz) ∧
      wr.ownsRow w.heap.size 5 1 (.slice (some ⟨w.heap.size, 0, none⟩) (len + k) (len + sz)) (len + k) (putTo l sz n big k) ∧ Below w.heap.size w wr) (fun _ i _ => sz - (intOf i).toNat)
  case atStart => exact ⟨0, Nat.zero_le _, rfl, rfl, by simpa [putTo] using hown2, hb2⟩
  case round =>
    obtain ⟨k, hk, rfl, rfl, hown, hbel⟩ := hrel
    by_cases hlt : k < sz
    · obtain ⟨hp0, hp1⟩ := posI_bound big sz k (by omega) (by omega)
      go_wp2_with fail
      refine (shift_any _ _ _ _ (by omega) (by omega) (by omega)).mono ?_
      rintro e w' ⟨rfl, rfl⟩
      go_wp2_with (first
        | (at_builtin; refine wpList_append_fits _ rfl (.tmp 28) (.tmp 36) 32 rfl w.heap.size 5 i0 1 Try.underlying32 hi hz1 w.heap.size (len + k) (len + sz) (putTo l sz n big k) rfl ?c0 ⟨w'.heap.size, 0, none⟩ 1 1 [bv (at8 (putB sz n big) k)] rfl rfl ?c1 ?c2 ?c3 ?_))
      case c0 => exact hown.alloc _
      case c1 =>
        have hv : bv (at8 (putB sz n big) k) = .int .u8 ((n : Int) / 2 ^ (8 * posI big sz k).toNat % 256) := by unfold bv; rw [putB_at sz n big k hlt]
        rw [hv]
        exact cell_one_new _ _ _
      case c2 => exact bv_oneCell [at8 (putB sz n big) k]
      case c3 => omega
      intro w1 hown1 hgrow1
      have hb1 : Below w.heap.size w w1 := ((hbel.alloc hbel.size _).grown hgrow1 (by have := hbel.size; simp; omega) (by intro j hj; cases hj; exact Nat.le_refl _))
      have H1 : Hid (w1.ownsRow w.heap.size 5 1 (.slice (some ⟨w.heap.size, 0, none⟩) (len + (k + 1)) (len + sz)) (len + (k + 1)) (putTo l sz n big (k + 1))) := by
        show World.ownsRow _ _ _ _ _ _ _
        rw [putTo_succ l sz n big k hlt]; exact hown1
      clear hown1
      go_wp2
      exact ⟨⟨k + 1, by omega, by go_num, rfl, H1.out, hb1⟩, by simp [intOf]; omega⟩
    · go_wp2
      go_ret
      have ek : k = sz := by omega
      subst ek
      refine ⟨w.heap.size, rfl, hbel, ?_⟩
      have hf : wr.ownsRow w.heap.size 5 1 _ _ ((l ++ (putB k n big).take k).map bv) := hown
      rw [List.take_of_length_le (by rw [putB_length]; exact Nat.le_refl _)] at hf
      rw [show (l ++ putB k n big).length = len + k by rw [List.length_append, putB_length, hl]]
      exact hf
/-- The program's put. -/
theorem sput_new (a : Option Addr) (len cap sz n : Nat) (l : List UInt8) (w : World) (hm : len ≤ 1000000) (hB : Byt w a len l) (hs : sz ≤ 8) (hn : n < 9223372036854775808) :
    Calls Try.prog 41 #[.slice a len cap, .int .i64 (sz : Int), .int .i64 (n : Int)] w fun e w' => ∃ g, e = .returned (.slice (some ⟨g, 0, none⟩) (len + sz) (len + sz)) ∧ NewB w w' (.slice (some ⟨g, 0, none⟩) (len + sz) (len + sz)) (l ++ putB sz n true) := by
  have hwk : IntKind.u64.wrap (n : Int) = (n : Int) := by rw [IntKind.wrap_u64]; omega
  go_enter Try.func41, Try.ntmps41
  go_wp2_with fail
  refine (put_new a len cap (sz : Int) n true l w hm hB sz (by omega)).mono ?_
  rintro e w1 ⟨g, rfl, hN⟩
  go_wp2_with fail
  go_ret
  exact ⟨g, rfl, hN⟩
theorem putB_one (n : Nat) (h : n < 256) : putB 1 n true = [UInt8.ofNat n] := by
  simp [putB, leB, Nat.mod_eq_of_lt h]
theorem append_zeros0 (w : World) (g n cap : Nat) (h : n ≤ cap) (hn : n ≤ 1000000) :
    (Builtin.append_ #[32, 3] 32 #[.slice (some ⟨g, 0, none⟩) n cap, .int .i64 0]).run Try.prog w = .ok (.slice (some ⟨g, 0, none⟩) n cap) w := by
  obtain ⟨i0, hi, hz0, hz1, hz2⟩ := info_parts Try.infoU8
  have hw : IntKind.i64.wrap (0 : Int) = 0 := by decide
  simp [Builtin.append_, run_underlying Try.underlying32, run_underlying Try.underlying3, sizeOf, typeInfo, zeroValue, hi, hz0, hz2, asInt, asIntOf, hw, h, storeCells]
/-- 'append(b, make([]byte, k)...)', also of none. -/
theorem NewB.zeros {w W : World} {g n c : Nat} {l : List UInt8} (h : NewB w W (.slice (some ⟨g, 0, none⟩) n c) l) (hn : l.length = n) (k : Nat) (hm : n + k ≤ 100000) :
    ∃ a2 c2 w2, (Builtin.append_ #[32, 3] 32 #[.slice (some ⟨g, 0, none⟩) n c, .int .i64 (k : Int)]).run Try.prog W = .ok (.slice a2 (n + k) c2) w2 ∧ NewB w w2 (.slice a2 (n + k) c2) (l ++ List.replicate k 0) := by
  subst hn
  obtain ⟨_, hc, _, _⟩ := h.at_ rfl
  by_cases hk : k = 0
  · subst hk
    refine ⟨some ⟨g, 0, none⟩, c, W, append_zeros0 W g l.length c hc (by omega), ?_⟩
    simpa using h
  · obtain ⟨v', w', hr, ho, hg⟩ := append_zeros W w.heap.size g l.length c l k h.2 (by omega) (by omega) h.1.size
    obtain ⟨a2, c2, rfl, _⟩ := own_parts ho
    refine ⟨a2, c2, w', hr, h.grown hg, ?_⟩
    rw [List.length_append, List.length_replicate]
    exact ho
/-- Bytes that one owns lie in a block, or there are none. -/
theorem NewB.some_ {w W : World} {a : Option Addr} {n c : Nat} {l : List UInt8} (h : NewB w W (.slice a n c) l) (hn : 0 < n) : ∃ g, a = some ⟨g, 0, none⟩ := by
  rcases h.2.2 with ⟨h1, h2⟩ | ⟨g, cap, cur, e, _⟩
  · cases h1; omega
  · cases e; exact ⟨g, rfl⟩

set_option maxHeartbeats 1000000 in
/-- The program's attribute. -/
theorem sattr_new (a : Option Addr) (len cap : Nat) (l : List UInt8) (k : Nat) (hk : k < 65536) (da : Option Addr) (ld dc : Nat) (d : List UInt8) (w : World) (hm : len ≤ 5000) (hB : Byt w a len l)
    (hD : Byt w da ld d) (hdn : da = none → dc = 0) (hdm : ld ≤ 5000) :
    Calls Try.prog 42 #[.slice a len cap, .int .i64 (k : Int), .slice da ld dc] w fun e w' => ∃ a' n' cap', e = .returned (.slice a' n' cap') ∧ n' = len + (sAttr (k, d)).length ∧ NewB w w' (.slice a' n' cap') (l ++ sAttr (k, d)) := by
  have hll := hB.1
  have hdl := hD.1
  obtain ⟨p, hp⟩ : ∃ p, (4 - ld % 4) % 4 = p := ⟨_, rfl⟩
  go_enter Try.func42, Try.ntmps42
  go_wp2_with fail
  refine (sput_new a len cap 2 k l w (by omega) hB (by omega) (by omega)).mono ?_
  rintro e w1 ⟨g1, rfl, hN1⟩
  have hl1 : (l ++ putB 2 k true).length = len + 2 := by rw [List.length_append, putB_length, hll]
  obtain ⟨hB1, _, _, hn1⟩ := hN1.at_ hl1
  have HN1 := uhid hN1
  clear hN1
  go_wp2_with fail
  refine (sput_new (some ⟨g1, 0, none⟩) (len + 2) (len + 2) 2 ld (l ++ putB 2 k true) w1 (by omega) hB1 (by omega) (by omega)).mono ?_
  rintro e w2 ⟨g2, rfl, hN2⟩
  have hN2' := NewB.trans HN1.out.1 hN2
  have hD2 := hD.later hN2'.1
  have hl2 : (l ++ putB 2 k true ++ putB 2 ld true).length = len + 2 + 2 := by rw [List.length_append, putB_length, hl1]
  obtain ⟨a3, c3, w3, hap, hN3⟩ := hN2'.many da ld dc d hD2 hdn (by rw [hl2]; omega)
  rw [hl2] at hap hN3
  have HAP := uhid hap
  obtain ⟨P, hP⟩ : ∃ P, l ++ putB 2 k true ++ putB 2 ld true ++ d = P := ⟨_, rfl⟩
  have hPl : P.length = len + 2 + 2 + ld := by rw [← hP, List.length_append, hl2, hdl]
  rw [hP] at hN3
  have HP := uhid hP
  obtain ⟨q, hq⟩ : ∃ q, len + 2 + 2 + ld = q := ⟨_, rfl⟩
  rw [hq] at HAP hN3 hPl
  obtain ⟨g3, rfl⟩ := hN3.some_ (by omega)
  obtain ⟨a4, c4, w4, hap4, hN4⟩ := hN3.zeros hPl p (by omega)
  have HAP4 := uhid hap4
  have hres : P ++ List.replicate p 0 = l ++ sAttr (k, d) := by
    rw [← HP.out, sAttr, pad4, hdl, ← hp]
    simp
  have hlen : q + p = len + (sAttr (k, d)).length := by rw [← hPl, ← hll, ← List.length_append, ← hres, List.length_append, List.length_replicate]
  rw [hres] at hN4
  have HN4 := uhid hN4
  have HL := uhid hlen
  clear hap hap4 hN3 hN4 hN2 hN2' hD2 hB1 HN1 hP hn1 hres hlen
  go_wp2_with (at_builtin; refine wpList_append_run rfl (.tmp 14) (.tmp 15) 32 rfl _ _ _ _ rfl rfl HAP.out ?_)
  refine (fill_any ld _ (by omega)).mono ?_
  rintro e w' ⟨rfl, rfl⟩
  rw [hp]
  go_wp2_with (at_builtin; refine wpList_append_run2 rfl (.tmp 17) (.tmp 20) 32 3 rfl _ _ _ _ rfl rfl HAP4.out ?_)
  go_ret
  exact ⟨a4, _, c4, rfl, HL.out, HN4.out⟩
end Go.Proofs.Ytejbhjcopldekaa
