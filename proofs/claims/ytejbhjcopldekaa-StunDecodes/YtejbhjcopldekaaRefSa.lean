/- The document's numbers and attributes, behind others (stage 12). -/
import Derived.Test.YtejbhjcopldekaaRefG
import Derived.Test.YtejbhjcopldekaaNewB
import Derived.Test.YtejbhjcopldekaaMathStuB
namespace Go.Proofs.Ytejbhjcopldekaa
set_option linter.unusedVariables false
set_option maxRecDepth 100000
open Go.RowKit

set_option maxHeartbeats 1000000 in
set_option maxRecDepth 100000 in
theorem refPut_new (a : Option Addr) (len cap : Nat) (size : Int) (n : Nat) (hn : n < 18446744073709551616) (big : Bool) (l : List UInt8) (w : World) (hm : len ≤ 90000)
    (hB : Byt w a len l) (hnil : a = none → cap = 0) (sz : Nat) (hsz : (sz : Int) = min (max size 0) 8) :
    Calls Try.prog 45 #[.slice a len cap, .int .i64 size, .int .u64 (n : Int), .bool big] w fun e w' => ∃ a' cap', e = .returned (.slice a' (len + sz) cap') ∧ NewB w w' (.slice a' (len + sz) cap') (l ++ putB sz n big) := by
  obtain ⟨mx, e1⟩ : ∃ mx : Int, (if size < 0 then (0 : Int) else size) = mx := ⟨_, rfl⟩
  have e2 : (if 8 < mx then (8 : Int) else mx) = (sz : Int) := by rw [hsz, ← e1]; split <;> split <;> omega
  have hs8 : sz ≤ 8 := by omega
  clear hsz
  have hll := hB.1
  obtain ⟨a2, cap2, w2, hap, hN2⟩ := (NewB.lit (Below.refl _ w) [] #[] rfl (by simp)).many a len cap l (hB.later ((Below.refl _ _).alloc (Nat.le_refl _) _)) hnil (by simp; omega)
  simp only [List.length_nil, Nat.zero_add, List.nil_append] at hap hN2
  have HAP : Hid (_) := hap
  clear hap
  go_enter Try.func45, Try.ntmps45
  go_wp2_with (at_builtin; refine wpList_append_run rfl (.tmp 14) (.tmp 15) 32 rfl _ _ _ _ rfl rfl HAP.out ?_)
  go_loopw [9, 10] (fun v i wr => ∃ (k : Nat) (a' : Option Addr) (cap' : Nat), k ≤ sz ∧ i = .int .i64 k ∧ v = .slice a' (len + k) cap' ∧ Hid (NewB w wr (.slice a' (len + k) cap') (l ++ (putB sz n big).take k))) (fun _ i _ => sz - (intOf i).toNat)
  case atStart => exact ⟨0, a2, cap2, Nat.zero_le _, rfl, rfl, by show NewB _ _ _ _; simpa using hN2⟩
  case round =>
    obtain ⟨k, a', cap', hk, rfl, rfl, hN⟩ := hrel
    by_cases hlt : k < sz
    · obtain ⟨hp0, hp1⟩ := posI_bound big sz k (by omega) (by omega)
      obtain ⟨p, hp⟩ : ∃ p : Nat, posI big sz k = (p : Int) := ⟨(posI big sz k).toNat, by omega⟩
      have hp8 : p < 8 := by omega
      have hbyte := divs_byte sz n big k p hlt hp
      have hpb : (if big = true then (sz : Int) - 1 - (k : Int) else (k : Int)) = (p : Int) := by rw [← hp]; rfl
      cases big
      · have hpk : p = k := by simp [posI] at hp; omega
        clear hpb hp hp0 hp1
        subst hpk
        go_wp2
        go_loop [12, 13] (fun x j => ∃ q : Nat, q ≤ p ∧ j = .int .i64 q ∧ x = .int .u64 (divs n q : Int)) (fun _ j => p - (intOf j).toNat)
        case atStart => exact ⟨0, Nat.zero_le _, rfl, by simp [divs]⟩
        case round =>
          obtain ⟨q, hq, rfl, rfl⟩ := hrel
          have hdv := divs_lt n q hn
          by_cases hqp : q < p
          · have HQ : Hid ((divs n (q + 1) : Int) = (divs n q : Int) / 256) := by show _ = _; rw [divs_succ]; simp
            go_wp2
            exact ⟨⟨q + 1, by omega, by go_num, by rw [HQ.out]⟩, by simp [intOf]; omega⟩
          · have hqe : p = q := by omega
            subst hqe
            have hkl : ((putB sz n false).take p).length = p := by rw [List.length_take, putB_length]; omega
            obtain ⟨a3, cap3, w3, hap3, hN3⟩ := hN.out.one (by rw [List.length_append, hll, hkl]) (at8 (putB sz n false) p) (by omega)
            have HA3 : Hid (_) := hap3
            have HN3 : Hid (NewB w w3 (.slice a3 (len + (p + 1)) cap3) (l ++ (putB sz n false).take (p + 1))) := by
              rw [take_at _ _ (by rw [putB_length]; omega), ← List.append_assoc]; exact hN3
            clear hap3 hN3 hkl
            go_wp2_with (at_builtin; refine wpList_append_run rfl (.tmp 39) (.tmp 43) 32 rfl _ _ _ _ rfl rfl HA3.out ?_)
            exact ⟨⟨p + 1, a3, cap3, by omega, by go_num, rfl, HN3⟩, by simp [intOf]; omega⟩
      · have hpb' : (sz : Int) - 1 - (k : Int) = (p : Int) := hp
        clear hpb hp hp0 hp1
        go_wp2
        go_loop [12, 13] (fun x j => ∃ q : Nat, q ≤ p ∧ j = .int .i64 q ∧ x = .int .u64 (divs n q : Int)) (fun _ j => p - (intOf j).toNat)
        case atStart => exact ⟨0, Nat.zero_le _, rfl, by simp [divs]⟩
        case round =>
          obtain ⟨q, hq, rfl, rfl⟩ := hrel
          have hdv := divs_lt n q hn
          by_cases hqp : q < p
          · have HQ : Hid ((divs n (q + 1) : Int) = (divs n q : Int) / 256) := by show _ = _; rw [divs_succ]; simp
            go_wp2
            exact ⟨⟨q + 1, by omega, by go_num, by rw [HQ.out]⟩, by simp [intOf]; omega⟩
          · have hqe : p = q := by omega
            subst hqe
            have hkl : ((putB sz n true).take k).length = k := by rw [List.length_take, putB_length]; omega
            obtain ⟨a3, cap3, w3, hap3, hN3⟩ := hN.out.one (by rw [List.length_append, hll, hkl]) (at8 (putB sz n true) k) (by omega)
            have HA3 : Hid (_) := hap3
            have HN3 : Hid (NewB w w3 (.slice a3 (len + (k + 1)) cap3) (l ++ (putB sz n true).take (k + 1))) := by
              rw [take_at _ _ (by rw [putB_length]; omega), ← List.append_assoc]; exact hN3
            clear hap3 hN3 hkl
            go_wp2_with (at_builtin; refine wpList_append_run rfl (.tmp 39) (.tmp 43) 32 rfl _ _ _ _ rfl rfl HA3.out ?_)
            exact ⟨⟨k + 1, a3, cap3, by omega, by go_num, rfl, HN3⟩, by simp [intOf]; omega⟩
    · have ek : k = sz := by omega
      subst ek
      go_wp2
      go_ret
      refine ⟨a', cap', rfl, ?_⟩
      have hf := hN.out
      rwa [List.take_of_length_le (by rw [putB_length]; exact Nat.le_refl _)] at hf

theorem shid {p : Prop} (h : p) : Hid p := h
set_option maxHeartbeats 1000000 in
theorem number_new (a : Option Addr) (len cap : Nat) (sz n : Nat) (hn : n < 18446744073709551616) (hs : sz ≤ 8) (l : List UInt8) (w : World) (hm : len ≤ 90000) (hB : Byt w a len l) (hnil : a = none → cap = 0) :
    Calls Try.prog 29 #[.slice a len cap, .int .i64 (sz : Int), .int .u64 (n : Int)] w fun e w' => ∃ a' cap', e = .returned (.slice a' (len + sz) cap') ∧ NewB w w' (.slice a' (len + sz) cap') (l ++ putB sz n true) := by
  go_enter Try.func29, Try.ntmps29
  go_wp2_with fail
  refine (refPut_new a len cap (sz : Int) n hn true l w hm hB hnil sz (by omega)).mono ?_
  rintro e w1 ⟨a1, c1, rfl, hN⟩
  go_wp2_with fail
  go_ret
  exact ⟨a1, c1, rfl, hN⟩
theorem pad_snoc (j : Nat) : List.replicate (j + 1) (0 : UInt8) = List.replicate j 0 ++ [0] := List.replicate_succ'

set_option maxHeartbeats 1000000 in
theorem attr_new (a : Option Addr) (len cap : Nat) (l : List UInt8) (k : Nat) (hk : k < 65536) (da : Option Addr) (ld dc : Nat) (d : List UInt8) (w : World) (hm : len ≤ 5000) (h4 : len % 4 = 0) (hB : Byt w a len l) (hnil : a = none → cap = 0)
    (hD : Byt w da ld d) (hdn : da = none → dc = 0) (hdm : ld ≤ 5000) :
    Calls Try.prog 30 #[.slice a len cap, .int .i64 (k : Int), .slice da ld dc] w fun e w' => ∃ a' n' cap', e = .returned (.slice a' n' cap') ∧ n' = len + (sAttr (k, d)).length ∧ NewB w w' (.slice a' n' cap') (l ++ sAttr (k, d)) := by
  have hll := hB.1
  have hdl := hD.1
  have hwk : IntKind.u64.wrap (k : Int) = (k : Int) := by rw [IntKind.wrap_u64]; omega
  have hwd : IntKind.u64.wrap (ld : Int) = (ld : Int) := by rw [IntKind.wrap_u64]; omega
  have hz : ((2 : Nat) : Int) = 2 := rfl
  obtain ⟨p, hp⟩ : ∃ p, (4 - ld % 4) % 4 = p := ⟨_, rfl⟩
  go_enter Try.func30, Try.ntmps30
  go_wp2_with fail
  refine (number_new a len cap 2 k (by omega) (by omega) l w (by omega) hB hnil).mono ?_
  rintro e w1 ⟨a1, c1, rfl, hN1⟩
  have hl1 : (l ++ putB 2 k true).length = len + 2 := by rw [List.length_append, putB_length, hll]
  obtain ⟨hB1, _, _, hn1⟩ := hN1.at_ hl1
  have HN1 := shid hN1
  go_wp2_with fail
  refine (number_new a1 (len + 2) c1 2 ld (by omega) (by omega) (l ++ putB 2 k true) w1 (by omega) hB1 hn1).mono ?_
  rintro e w2 ⟨a2, c2, rfl, hN2⟩
  have hN2' := NewB.trans HN1.out.1 hN2
  have hD2 := hD.later hN2'.1
  have hl2 : (l ++ putB 2 k true ++ putB 2 ld true).length = len + 2 + 2 := by rw [List.length_append, putB_length, hl1]
  obtain ⟨a3, c3, w3, hap, hN3⟩ := hN2'.many da ld dc d hD2 hdn (by rw [hl2]; omega)
  rw [hl2] at hap hN3
  have HAP := shid hap
  obtain ⟨P, hP⟩ : ∃ P, l ++ putB 2 k true ++ putB 2 ld true ++ d = P := ⟨_, rfl⟩
  have hPl : P.length = len + 2 + 2 + ld := by rw [← hP, List.length_append, hl2, hdl]
  rw [hP] at hN3
  have HP := shid hP
  obtain ⟨q, hq⟩ : ∃ q, len + 2 + 2 + ld = q := ⟨_, rfl⟩
  rw [hq] at HAP hN3 hPl
  have HN3 : Hid (NewB w w3 (.slice a3 q c3) (P ++ List.replicate 0 0)) := shid (by simpa using hN3)
  clear hap hN3 hN2 hN2' hD2 hB1 HN1 hP hn1
  go_wp2_with (at_builtin; refine wpList_append_run rfl (.tmp 15) (.tmp 16) 32 rfl _ _ _ _ rfl rfl HAP.out ?_)
  go_loopw [0] (fun v wr => ∃ (j n c : Nat) (a' : Option Addr), j ≤ p ∧ n = q + j ∧ v = .slice a' n c ∧ Hid (NewB w wr (.slice a' n c) (P ++ List.replicate j 0))) (fun v _ => match v with | .slice _ n _ => q + p - n | _ => 0)
  case atStart => exact ⟨0, q, c3, a3, Nat.zero_le _, rfl, rfl, HN3⟩
  case round =>
    clear HN3 HAP
    obtain ⟨j, n, c, a', hj, hn, rfl, hN⟩ := hrel
    have hPj : (P ++ List.replicate j (0 : UInt8)).length = n := by rw [List.length_append, List.length_replicate, hPl, hn]
    by_cases hlt : j < p
    · have hr : (n : Int).tmod 4 = ((n % 4 : Nat) : Int) := by rw [Int.tmod_eq_emod_of_nonneg (by omega)]; omega
      obtain ⟨r, hr2⟩ : ∃ r, n % 4 = r := ⟨_, rfl⟩
      have hr0 : ¬ ((r : Nat) : Int) = 0 := by omega
      rw [hr2] at hr
      have hr3 : (n : Int) % 4 = (r : Int) := by omega
      obtain ⟨a5, c5, w5, hap5, hN5⟩ := hN.out.one hPj 0 (by omega)
      rw [List.append_assoc, ← pad_snoc] at hN5
      have HA5 : Hid ((Builtin.append_ #[32, 32] 32 #[.slice a' n c, .slice (some ⟨wr.heap.size, 0, none⟩) 1 1]).run Try.prog (wr.alloc (.cells #[.int .u8 0] 5)) = .ok (.slice a5 (n + 1) c5) w5) := hap5
      have HN5 := shid hN5
      have HE : Hid (n + 1 = q + (j + 1)) := by show _ = _; omega
      have HM : Hid (q + p - (n + 1) < q + p - n) := by show _ < _; omega
      clear hap5 hN5 hN hn hr2 hPj hq
      go_wp2_with (at_builtin; refine wpList_append_run rfl (.tmp 22) (.tmp 23) 32 rfl _ _ _ _ rfl rfl HA5.out ?_)
      exact ⟨⟨j + 1, n + 1, c5, a5, by omega, HE.out, rfl, HN5⟩, by simpa using HM.out⟩
    · have ej : j = p := by omega
      have hr3 : (n : Int) % 4 = 0 := by omega
      have hr : (n : Int).tmod 4 = 0 := by rw [Int.tmod_eq_emod_of_nonneg (by omega)]; exact hr3
      have hres : P ++ List.replicate j 0 = l ++ sAttr (k, d) := by
        rw [ej, ← hp, ← HP.out, sAttr, pad4, hdl]
        simp
      have hlen : n = len + (sAttr (k, d)).length := by rw [← hPj, hres, List.length_append, hll]
      have HE := shid hlen
      have HN := hN.out
      rw [hres] at HN
      clear hN hn ej hPj hres hlen
      go_wp2_with fail
      go_ret
      exact ⟨a', n, c, rfl, HE.out, HN⟩
end Go.Proofs.Ytejbhjcopldekaa
