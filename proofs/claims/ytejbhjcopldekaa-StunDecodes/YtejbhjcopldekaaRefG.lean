/- The walks over the document's Get and Put. -/
import Derived.Test.YtejbhjcopldekaaRefX
namespace Go.Proofs.Ytejbhjcopldekaa
set_option linter.unusedVariables false
set_option maxRecDepth 100000
open Go.RowKit

/-- What stands in the number when i of its bytes have been taken, the highest first. -/
def hor (bs : List UInt8) (big : Bool) (i : Nat) : Nat := if big then leN (bs.take i).reverse else leN (bs.drop (bs.length - i))
def horAt (size : Nat) (big : Bool) (i : Nat) : Nat := if big then i else size - 1 - i
theorem hor_zero (bs : List UInt8) (big : Bool) : hor bs big 0 = 0 := by cases big <;> simp [hor, leN]
theorem hor_all (bs : List UInt8) (big : Bool) : hor bs big bs.length = valB bs big := by cases big <;> simp [hor, valB]
theorem hor_lt (bs : List UInt8) (big : Bool) (i : Nat) (h : i ≤ bs.length) : hor bs big i < 256 ^ i := by
  cases big
  · simp only [hor, Bool.false_eq_true, if_false]
    have hl := leN_lt (bs.drop (bs.length - i))
    rw [List.length_drop, show bs.length - (bs.length - i) = i by omega] at hl
    exact hl
  · simp only [hor, if_true]
    have hl := leN_lt (bs.take i).reverse
    rwa [List.length_reverse, List.length_take, Nat.min_eq_left h] at hl
theorem hor_step (bs : List UInt8) (big : Bool) (i : Nat) (h : i < bs.length) : hor bs big (i + 1) = hor bs big i * 256 + (at8 bs (horAt bs.length big i)).toNat := by
  cases big
  · simp only [hor, horAt, Bool.false_eq_true, if_false]
    have hd : bs.drop (bs.length - (i + 1)) = bs[bs.length - 1 - i] :: bs.drop (bs.length - i) := by
      rw [show bs.length - (i + 1) = bs.length - 1 - i by omega, List.drop_eq_getElem_cons (by omega), show bs.length - 1 - i + 1 = bs.length - i by omega]
    rw [hd, leN, at8_get _ _ (by omega)]
    omega
  · simp only [hor, horAt, if_true]
    rw [getV_be_step bs i h, at8_get _ _ h]
    omega
theorem hor_bound (bs : List UInt8) (big : Bool) (i : Nat) (h : i < bs.length) (h8 : bs.length ≤ 8) : (hor bs big i : Int) < 72057594037927936 := by
  have h1 := hor_lt bs big i (by omega)
  have h2 : (256 : Nat) ^ i ≤ 256 ^ 7 := Nat.pow_le_pow_right (by decide) (by omega)
  omega

set_option maxHeartbeats 400000 in
set_option maxRecDepth 100000 in
theorem refGet_no (a : Option Addr) (len cap : Nat) (at_ size : Int) (big : Bool) (w : World) (hm : len ≤ maxLen) (ha : -9223372036854775808 ≤ at_ ∧ at_ ≤ 9223372036854775807)
    (h : ¬ (1 ≤ size ∧ size ≤ 8 ∧ 0 ≤ at_ ∧ at_ + size ≤ len)) :
    Calls Try.prog 37 #[.slice a len cap, .int .i64 at_, .int .i64 size, .bool big] w fun e w' => e = .returned (.tuple #[.int .u64 0, .bool false]) ∧ w' = w := by
  unfold maxLen at hm
  by_cases h1 : size < 1
  · go_enter Try.func37, Try.ntmps37
    go_wp2
    go_ret2
    exact ⟨rfl, rfl⟩
  by_cases h2 : 8 < size
  · go_enter Try.func37, Try.ntmps37
    go_wp2
    go_ret2
    exact ⟨rfl, rfl⟩
  by_cases h3 : at_ < 0
  · go_enter Try.func37, Try.ntmps37
    go_wp2
    go_ret2
    exact ⟨rfl, rfl⟩
  by_cases h4 : (len : Int) < at_
  · go_enter Try.func37, Try.ntmps37
    go_wp2
    go_ret2
    exact ⟨rfl, rfl⟩
  · have h5 : (len : Int) - at_ < size := by omega
    go_enter Try.func37, Try.ntmps37
    go_wp2
    go_ret2
    exact ⟨rfl, rfl⟩

set_option maxHeartbeats 400000 in
set_option maxRecDepth 100000 in
theorem refGet_len (b off len cap : Nat) (at_ size : Nat) (big : Bool) (l : List UInt8) (w : World) (hm : len ≤ maxLen) (hlc : len ≤ cap)
    (hB : Byt w (some ⟨b, off, none⟩) len l) (h1 : 1 ≤ size) (h8 : size ≤ 8) (h : at_ + size ≤ len) :
    Calls Try.prog 37 #[.slice (some ⟨b, off, none⟩) len cap, .int .i64 at_, .int .i64 size, .bool big] w fun e w' => e = .returned (.tuple #[.int .u64 (getV l big at_ size : Int), .bool true]) ∧ w' = w := by
  unfold maxLen at hm
  obtain ⟨hl, hB⟩ := hB
  have g1 : ¬ (size : Int) < 1 := by omega
  have g2 : ¬ (8 : Int) < size := by omega
  have g3 : ¬ (at_ : Int) < 0 := by omega
  have g4 : ¬ (len : Int) < at_ := by omega
  have g5 : ¬ (len : Int) - at_ < size := by omega
  have hcl := cutB_length l at_ size (by omega)
  go_enter Try.func37, Try.ntmps37
  go_wp2
  go_loop [10, 11] (fun n i => ∃ k : Nat, k ≤ size ∧ i = .int .i64 k ∧ n = .int .u64 (hor (cutB l at_ size) big k : Int)) (fun _ i => size - (intOf i).toNat)
  case atStart => exact ⟨0, Nat.zero_le _, rfl, by rw [hor_zero]; rfl⟩
  case round =>
    obtain ⟨k, hk, rfl, rfl⟩ := hrel
    by_cases hlt : k < size
    · rcases hB with h0 | ⟨b', off', e, hc⟩
      · omega
      · cases e
        have hb := hor_bound (cutB l at_ size) big k (by omega) (by omega)
        have HS : Hid (hor (cutB l at_ size) big (k + 1) = hor (cutB l at_ size) big k * 256 + (at8 l (at_ + horAt size big k)).toNat) := by
          have e := hor_step (cutB l at_ size) big k (by omega)
          rw [hcl] at e
          rwa [cutB_at l at_ size _ (by unfold horAt; cases big <;> simp <;> omega)] at e
        have hb2 := at8_lt l (at_ + horAt size big k)
        cases big
        · obtain ⟨p, hp⟩ : ∃ p : Nat, (size : Int) - 1 - (k : Int) = (p : Int) := ⟨size - 1 - k, by omega⟩
          have hpe : horAt size false k = p := by simp [horAt]; omega
          rw [hpe] at HS hb2
          have hck := hc (at_ + p) (by omega)
          have hi1 : (at_ : Int) + (p : Int) < (len : Int) := by omega
          go_wp2
          exact ⟨⟨k + 1, by omega, by go_num, by rw [HS.out]; go_num⟩, by simp [intOf]; omega⟩
        · have hpe : horAt size true k = k := by simp [horAt]
          rw [hpe] at HS hb2
          have hck := hc (at_ + k) (by omega)
          have hi1 : (at_ : Int) + (k : Int) < (len : Int) := by omega
          go_wp2
          exact ⟨⟨k + 1, by omega, by go_num, by rw [HS.out]; go_num⟩, by simp [intOf]; omega⟩
    · have HE : Hid (hor (cutB l at_ size) big k = getV l big at_ size) := by
        have e2 : k = (cutB l at_ size).length := by omega
        show _ = _
        rw [e2, hor_all]; rfl
      go_wp2
      go_ret2
      exact ⟨ret_two (by rw [HE.out]), rfl⟩

/-- A number divided by 256 so often. -/
def divs (n k : Nat) : Nat := n / 256 ^ k
theorem divs_succ (n k : Nat) : divs n (k + 1) = divs n k / 256 := by unfold divs; rw [Nat.pow_succ, Nat.div_div_eq_div_mul]
theorem divs_lt (n k : Nat) (h : n < 18446744073709551616) : (divs n k : Int) < 18446744073709551616 := by
  have : divs n k ≤ n := Nat.div_le_self _ _
  omega
theorem divs_byte (sz n : Nat) (big : Bool) (k p : Nat) (h : k < sz) (hp : posI big sz k = (p : Int)) : (divs n p : Int) % 256 = ((at8 (putB sz n big) k).toNat : Int) := by
  rw [putB_at sz n big k h, hp]
  have e : (8 * (p : Int)).toNat = 8 * p := by omega
  have e2 : ((n : Int) / 2 ^ (8 * p)) = ((n / 2 ^ (8 * p) : Nat) : Int) := by simp
  rw [e, e2, ← pow256]
  rfl
theorem refGet_yes (b off len cap : Nat) (at_ size : Nat) (big : Bool) (l : List UInt8) (w : World) (hm : cap ≤ maxLen) (hlc : len ≤ cap)
    (hB : Byt w (some ⟨b, off, none⟩) len l) (h1 : 1 ≤ size) (h8 : size ≤ 8) (h : at_ + size ≤ len) :
    Calls Try.prog 37 #[.slice (some ⟨b, off, none⟩) len cap, .int .i64 at_, .int .i64 size, .bool big] w fun e w' => e = .returned (.tuple #[.int .u64 (getV l big at_ size : Int), .bool true]) ∧ w' = w :=
  refGet_len b off len cap at_ size big l w (Nat.le_trans hlc hm) hlc hB h1 h8 h


set_option maxHeartbeats 1000000 in
set_option maxRecDepth 100000 in
theorem refPut_seg (a : Option Addr) (len cap : Nat) (size : Int) (n : Nat) (hn : n < 18446744073709551616) (big : Bool) (l : List UInt8) (w : World) (hm : len ≤ 1000000)
    (hB : Byt w a len l) (hnil : a = none → cap = 0) (sz : Nat) (hsz : (sz : Int) = min (max size 0) 8) :
    Calls Try.prog 45 #[.slice a len cap, .int .i64 size, .int .u64 (n : Int), .bool big] w fun e w' => ∃ a' cap', e = .returned (.slice a' (len + sz) cap') ∧ Below w.heap.size w w' ∧ Seg w' 5 a' (len + sz) cap' ((l ++ putB sz n big).map bv) ∧ ∀ j, blockOf a' = some j → w.heap.size ≤ j := by
  obtain ⟨mx, e1⟩ : ∃ mx : Int, (if size < 0 then (0 : Int) else size) = mx := ⟨_, rfl⟩
  have e2 : (if 8 < mx then (8 : Int) else mx) = (sz : Int) := by rw [hsz, ← e1]; split <;> split <;> omega
  have hs8 : sz ≤ 8 := by omega
  clear hsz
  obtain ⟨a2, cap2, w2, hap, hs2, hb2, hbl2⟩ := append_all w a len cap l hB hnil hm
  have HAP : Hid (_) := hap
  clear hap
  go_enter Try.func45, Try.ntmps45
  go_wp2_with (at_builtin; refine wpList_append_run rfl (.tmp 14) (.tmp 15) 32 rfl _ _ _ _ rfl rfl HAP.out ?_)
  go_loopw [9, 10] (fun v i wr => ∃ (k : Nat) (a' : Option Addr) (cap' : Nat), k ≤ sz ∧ i = .int .i64 k ∧ v = .slice a' (len + k) cap' ∧ Seg wr 5 a' (len + k) cap' (putTo l sz n big k) ∧ (∀ j, blockOf a' = some j → w.heap.size ≤ j) ∧ Below w.heap.size w wr) (fun _ i _ => sz - (intOf i).toNat)
  case atStart => exact ⟨0, a2, cap2, Nat.zero_le _, rfl, rfl, by simpa [putTo] using hs2, hbl2, hb2⟩
  case round =>
    obtain ⟨k, a', cap', hk, rfl, rfl, hseg, hbl, hbel⟩ := hrel
    by_cases hlt : k < sz
    · obtain ⟨hp0, hp1⟩ := posI_bound big sz k (by omega) (by omega)
      obtain ⟨p, hp⟩ : ∃ p : Nat, posI big sz k = (p : Int) := ⟨(posI big sz k).toNat, by omega⟩
      have hp8 : p < 8 := by omega
      have hbyte := divs_byte sz n big k p hlt hp
      have hpb : (if big = true then (sz : Int) - 1 - (k : Int) else (k : Int)) = (p : Int) := by rw [← hp]; rfl
      cases big
      · have hpk : p = k := by simp [posI] at hp; omega
        clear hpb hp hp0 hp1
        subst hpk
        go_wp2
        go_loop [12, 13] (fun x j => ∃ q : Nat, q ≤ p ∧ j = .int .i64 q ∧ x = .int .u64 (divs n q : Int)) (fun _ j => p - (intOf j).toNat)
        case atStart => exact ⟨0, Nat.zero_le _, rfl, by simp [divs]⟩
        case round =>
          obtain ⟨q, hq, rfl, rfl⟩ := hrel
          have hdv := divs_lt n q hn
          by_cases hqp : q < p
          · have HQ : Hid ((divs n (q + 1) : Int) = (divs n q : Int) / 256) := by show _ = _; rw [divs_succ]; simp
            go_wp2
            exact ⟨⟨q + 1, by omega, by go_num, by rw [HQ.out]⟩, by simp [intOf]; omega⟩
          · have hqe : p = q := by omega
            subst hqe
            obtain ⟨i0, hi, hz0, hz1, hz2⟩ := info_parts Try.infoU8
            obtain ⟨a3, cap3, w3, hap3, hs3, hgr3, hfr3, hsz3⟩ := append_seg (P := Try.prog) 32 32 5 i0 (.int .u8 0) 1 Try.underlying32 hi hz0 hz1 hz2 rfl wr a' (len + p) cap' _ hseg (.int .u8 ((at8 (putB sz n false) p).toNat : Int)) rfl (by unfold maxLen; omega) (by omega)
            have HA3 : Hid (_) := hap3
            have HS3 : Hid (Seg w3 5 a3 (len + (p + 1)) cap3 (putTo l sz n false (p + 1))) := by
              rw [putTo_succ l sz n false p hlt]; exact hs3
            have HB3 : Hid (∀ j, blockOf a3 = some j → w.heap.size ≤ j) := by
              intro j hj
              rcases hfr3 with e | e
              · exact hbl j (by rw [← e]; exact hj)
              · have := e j hj; have := hbel.size; omega
            have hb3 : Below w.heap.size w w3 := hbel.grown hgr3 hbel.size hbl
            clear hap3 hs3 hgr3 hfr3
            go_wp2_with (at_builtin; refine wpList_append_run rfl (.tmp 39) (.tmp 43) 32 rfl _ _ _ _ rfl rfl HA3.out ?_)
            exact ⟨⟨p + 1, a3, cap3, by omega, by go_num, rfl, HS3.out, HB3.out, hb3⟩, by simp [intOf]; omega⟩
      · have hpb' : (sz : Int) - 1 - (k : Int) = (p : Int) := hp
        clear hpb hp hp0 hp1
        go_wp2
        go_loop [12, 13] (fun x j => ∃ q : Nat, q ≤ p ∧ j = .int .i64 q ∧ x = .int .u64 (divs n q : Int)) (fun _ j => p - (intOf j).toNat)
        case atStart => exact ⟨0, Nat.zero_le _, rfl, by simp [divs]⟩
        case round =>
          obtain ⟨q, hq, rfl, rfl⟩ := hrel
          have hdv := divs_lt n q hn
          by_cases hqp : q < p
          · have HQ : Hid ((divs n (q + 1) : Int) = (divs n q : Int) / 256) := by show _ = _; rw [divs_succ]; simp
            go_wp2
            exact ⟨⟨q + 1, by omega, by go_num, by rw [HQ.out]⟩, by simp [intOf]; omega⟩
          · have hqe : p = q := by omega
            subst hqe
            obtain ⟨i0, hi, hz0, hz1, hz2⟩ := info_parts Try.infoU8
            obtain ⟨a3, cap3, w3, hap3, hs3, hgr3, hfr3, hsz3⟩ := append_seg (P := Try.prog) 32 32 5 i0 (.int .u8 0) 1 Try.underlying32 hi hz0 hz1 hz2 rfl wr a' (len + k) cap' _ hseg (.int .u8 ((at8 (putB sz n true) k).toNat : Int)) rfl (by unfold maxLen; omega) (by omega)
            have HA3 : Hid (_) := hap3
            have HS3 : Hid (Seg w3 5 a3 (len + (k + 1)) cap3 (putTo l sz n true (k + 1))) := by
              rw [putTo_succ l sz n true k hlt]; exact hs3
            have HB3 : Hid (∀ j, blockOf a3 = some j → w.heap.size ≤ j) := by
              intro j hj
              rcases hfr3 with e | e
              · exact hbl j (by rw [← e]; exact hj)
              · have := e j hj; have := hbel.size; omega
            have hb3 : Below w.heap.size w w3 := hbel.grown hgr3 hbel.size hbl
            clear hap3 hs3 hgr3 hfr3
            go_wp2_with (at_builtin; refine wpList_append_run rfl (.tmp 39) (.tmp 43) 32 rfl _ _ _ _ rfl rfl HA3.out ?_)
            exact ⟨⟨k + 1, a3, cap3, by omega, by go_num, rfl, HS3.out, HB3.out, hb3⟩, by simp [intOf]; omega⟩
    · have ek : k = sz := by omega
      subst ek
      go_wp2
      go_ret
      refine ⟨a', cap', rfl, hbel, ?_, hbl⟩
      have hf := hseg
      unfold putTo at hf
      rwa [List.take_of_length_le (by rw [putB_length]; exact Nat.le_refl _)] at hf
theorem refPut_any (a : Option Addr) (len cap : Nat) (size : Int) (n : Nat) (hn : n < 18446744073709551616) (big : Bool) (l : List UInt8) (w : World) (hm : len ≤ 1000000)
    (hB : Byt w a len l) (hnil : a = none → cap = 0) (sz : Nat) (hsz : (sz : Int) = min (max size 0) 8) :
    Calls Try.prog 45 #[.slice a len cap, .int .i64 size, .int .u64 (n : Int), .bool big] w fun e w' => ∃ a' cap', e = .returned (.slice a' (len + sz) cap') ∧ Below w.heap.size w w' ∧ Byt w' a' (len + sz) (l ++ putB sz n big) :=
  (refPut_seg a len cap size n hn big l w hm hB hnil sz hsz).mono fun e w' h => by
    obtain ⟨a', cap', rfl, hb, hs, _⟩ := h
    exact ⟨a', cap', rfl, hb, Byt.ofSeg hs⟩
end Go.Proofs.Ytejbhjcopldekaa
