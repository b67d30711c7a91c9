/- The program's reader (stage 12). -/
import Derived.Test.YtejbhjcopldekaaStuI
namespace Go.Proofs.Ytejbhjcopldekaa
set_option linter.unusedVariables false
set_option maxRecDepth 100000
open Go.RowKit

/-- Bytes that are handed on. -/
structure Pc (w : World) (a : Option Addr) (n c : Nat) (l : List UInt8) : Prop where
  byt : Byt w a n l
  pl : a = none ∨ ∃ b off, a = some ⟨b, off, none⟩
  nc : n ≤ c
  cm : c ≤ maxLen
  nil : a = none → c = 0
theorem Pc.later {w w' : World} {a : Option Addr} {n c : Nat} {l : List UInt8} (h : Pc w a n c l) (hb : Below w.heap.size w w') : Pc w' a n c l := ⟨h.byt.later hb, h.pl, h.nc, h.cm, h.nil⟩
/-- A reader in its block: what it has still to read. -/
structure Rd (w0 : World) (r : Nat) (l : List UInt8) (W : World) : Prop where
  row : ∃ a c, W.heap[r]? = some (.cells #[.slice a l.length c] 79 (0, 0)) ∧ Pc w0 a l.length c l
  bel : Below w0.heap.size w0 W
  lo : w0.heap.size ≤ r
theorem Rd.lt {w0 W : World} {r : Nat} {l : List UInt8} (h : Rd w0 r l W) : r < W.heap.size := by
  obtain ⟨a, c, hr, _⟩ := h.row
  exact (Array.getElem?_eq_some_iff.1 hr).1
theorem Rd.kept {w0 W W' : World} {r : Nat} {l : List UInt8} (h : Rd w0 r l W) (hr : W'.heap[r]? = W.heap[r]?) (hb : Below w0.heap.size w0 W') : Rd w0 r l W' := by
  obtain ⟨a, c, h1, h2⟩ := h.row
  exact ⟨⟨a, c, hr.trans h1, h2⟩, hb, h.lo⟩
theorem rbytes_no (r n : Nat) (a : Option Addr) (k c : Nat) (w : World) (hr : w.heap[r]? = some (.cells #[.slice a k c] 79 (0, 0))) (h : k < n) (hn : n ≤ 1000000) :
    Calls Try.prog 48 #[.pointer (some ⟨r, 0, none⟩), .int .i64 (n : Int)] w fun e w' => e = span 2 ∧ w' = w := by
  have q0 : w.cell? ⟨r, 0, none⟩ = some (.slice a k c) := by rw [cell_of_row w r 0 _ _ (0, 0) hr]; rfl
  have h1 : ¬ (n : Int) ≤ (k : Int) := by omega
  go_enter Try.func48, Try.ntmps48
  go_wp2_with fail
  refine (smust_no 2 w).mono ?_
  rintro e w1 ⟨rfl, rfl⟩
  go_wp2_with fail
  exact ⟨rfl, rfl, rfl⟩
theorem Rd.cut {w0 w : World} {r k n c b off c2 : Nat} {l : List UInt8} {a2 : Option Addr} (h : Rd w0 r l w) (hr : w.heap[r]? = some (.cells #[.slice (some ⟨b, off, none⟩) k c] 79 (0, 0))) (hp : Pc w0 (some ⟨b, off, none⟩) k c l) (hk : l.length = k) (hn : n ≤ k)
    (ha : (n = c ∧ a2 = some ⟨b, off, none⟩ ∧ c2 = 0) ∨ (a2 = some ⟨b, off + n, none⟩ ∧ c2 = c - n)) :
    Pc w0 (some ⟨b, off, none⟩) n c (l.take n) ∧ Rd w0 r (l.drop n) (w.setCell ⟨r, 0, none⟩ (.slice a2 (k - n) c2)) ∧ But r w (w.setCell ⟨r, 0, none⟩ (.slice a2 (k - n) c2)) := by
  have hnc := hp.nc
  have hcm := hp.cm
  refine ⟨⟨hp.byt.cut hn, .inr ⟨b, off, rfl⟩, by omega, hp.cm, fun e => by cases e⟩, ⟨⟨a2, c2, ?_, ?_⟩, h.bel.setCell h.lo _, h.lo⟩, But.setCell w r 0 _⟩
  · rw [heap_setCell_same w r 0 _ _ _ hr, List.length_drop, hk]
    rfl
  · have hl : (l.drop n).length = k - n := by rw [List.length_drop, hk]
    rw [hl]
    rcases ha with ⟨rfl, rfl, rfl⟩ | ⟨rfl, rfl⟩
    · have e0 : k - n = 0 := by omega
      exact ⟨⟨hl, .inl e0⟩, .inr ⟨b, off, rfl⟩, by omega, by omega, fun e => by cases e⟩
    · have hs := hp.byt.sub hn (Nat.le_refl k)
      rw [List.take_of_length_le (by rw [hl]; exact Nat.le_refl _)] at hs
      exact ⟨hs, .inr ⟨b, off + n, rfl⟩, by omega, by omega, fun e => by cases e⟩
set_option maxHeartbeats 1000000 in
theorem rbytes_yes (w0 : World) (r n : Nat) (l : List UInt8) (w : World) (h : Rd w0 r l w) (hn : n ≤ l.length) :
    Calls Try.prog 48 #[.pointer (some ⟨r, 0, none⟩), .int .i64 (n : Int)] w fun e w' => ∃ a c, e = .returned (.slice a n c) ∧ Pc w0 a n c (l.take n) ∧ Rd w0 r (l.drop n) w' ∧ But r w w' := by
  obtain ⟨a, c, hr, hp⟩ := h.row
  obtain ⟨k, hk⟩ : ∃ k, l.length = k := ⟨_, rfl⟩
  rw [hk] at hr hp hn
  have q0 : w.cell? ⟨r, 0, none⟩ = some (.slice a k c) := by rw [cell_of_row w r 0 _ _ (0, 0) hr]; rfl
  have f0 : w.frozen? ⟨r, 0, none⟩ = false := frozen_of_row w r 0 _ _ hr
  have h1 : (n : Int) ≤ (k : Int) := by omega
  have hnc := hp.nc
  have hcm := hp.cm
  unfold maxLen at hcm
  have HP := uhid hp
  have HR := uhid hr
  have HH := uhid h
  have HK := uhid hk
  clear hp hr h hk
  rcases HP.out.pl with rfl | ⟨b, off, rfl⟩
  · have hc0 : c = 0 := HP.out.nil rfl
    subst hc0
    have hk0 : k = 0 := by omega
    have hn0 : n = 0 := by omega
    subst hk0 hn0
    go_enter Try.func48, Try.ntmps48
    go_wp2_with fail
    refine (smust_ok 2 w).mono ?_
    rintro e w1 ⟨⟨v, rfl⟩, rfl⟩
    go_wp2_with fail
    go_ret
    have hrow := HR.out
    refine ⟨none, 0, rfl, ⟨⟨by rw [List.take_zero]; rfl, .inl rfl⟩, .inl rfl, by omega, by omega, fun _ => rfl⟩, ⟨⟨none, 0, ?_, ?_⟩, HH.out.bel.setCell HH.out.lo _, HH.out.lo⟩, But.setCell _ r 0 _⟩
    · rw [heap_setCell_same _ r 0 _ _ _ hrow, List.length_drop, HK.out]
      rfl
    · rw [List.length_drop, HK.out]
      exact ⟨⟨by rw [List.length_drop, HK.out], .inl rfl⟩, .inl rfl, by omega, by omega, fun _ => rfl⟩
  · by_cases hec : n = c
    · have hkc : k = c := by omega
      subst hec
      go_enter Try.func48, Try.ntmps48
      go_wp2_with fail
      refine (smust_ok 2 w).mono ?_
      rintro e w1 ⟨⟨v, rfl⟩, rfl⟩
      go_wp2_with fail
      go_ret
      have e := HH.out.cut HR.out HP.out HK.out hn (.inl ⟨rfl, rfl, rfl⟩)
      rw [show k - n = 0 by omega] at e
      exact ⟨_, _, rfl, e⟩
    · have hec2 : ¬ n = c := hec
      go_enter Try.func48, Try.ntmps48
      go_wp2_with fail
      refine (smust_ok 2 w).mono ?_
      rintro e w1 ⟨⟨v, rfl⟩, rfl⟩
      go_wp2_with fail
      go_ret
      exact ⟨_, _, rfl, HH.out.cut HR.out HP.out HK.out hn (.inr ⟨rfl, rfl⟩)⟩
theorem getV_take (l : List UInt8) (n : Nat) : getV (l.take n) true 0 n = getV l true 0 n := by
  unfold getV cutB
  simp [List.take_take]
theorem rnumber_yes (w0 : World) (r n : Nat) (l : List UInt8) (w : World) (h : Rd w0 r l w) (h1 : 1 ≤ n) (h4 : n ≤ 4) (hn : n ≤ l.length) :
    Calls Try.prog 47 #[.pointer (some ⟨r, 0, none⟩), .int .i64 (n : Int)] w fun e w' => e = .returned (.int .i64 (getV l true 0 n : Int)) ∧ Rd w0 r (l.drop n) w' ∧ But r w w' := by
  have hlt := getV_lt l 0 n
  have hp : 256 ^ n ≤ 256 ^ 4 := Nat.pow_le_pow_right (by decide) h4
  have hwk : IntKind.i64.wrap (getV l true 0 n : Int) = (getV l true 0 n : Int) := by rw [IntKind.wrap_i64]; omega
  go_enter Try.func47, Try.ntmps47
  go_wp2_with fail
  refine (rbytes_yes w0 r n l w h hn).mono ?_
  rintro e w1 ⟨a, c, rfl, hP, hR, hG⟩
  have HR := uhid hR
  have HG := uhid hG
  have hB := hP.byt.later hR.bel
  rcases hP.byt.2 with h0 | ⟨b, off, rfl, _⟩
  · omega
  have hnc := hP.nc
  have hcm := hP.cm
  have HP := uhid hP
  clear hP hR hG hp hlt
  go_wp2_with fail
  refine (get_yes b off n c 0 n true (l.take n) w1 hcm hnc hB h1 (by omega) (by omega)).mono ?_
  rintro e w2 ⟨rfl, rfl⟩
  rw [getV_take]
  go_wp2_with fail
  go_ret
  exact ⟨rfl, HR.out, HG.out⟩
theorem rnumber_no (r n : Nat) (a : Option Addr) (k c : Nat) (w : World) (hr : w.heap[r]? = some (.cells #[.slice a k c] 79 (0, 0))) (h : k < n) (hn : n ≤ 1000000) :
    Calls Try.prog 47 #[.pointer (some ⟨r, 0, none⟩), .int .i64 (n : Int)] w fun e w' => e = span 2 ∧ w' = w := by
  go_enter Try.func47, Try.ntmps47
  go_wp2_with fail
  refine (rbytes_no r n a k c w hr h hn).mono ?_
  rintro e w1 ⟨rfl, rfl⟩
  go_wp2_with fail
  exact ⟨rfl, rfl, rfl⟩
theorem Rd.stuck {w0 W : World} {r : Nat} {l : List UInt8} (h : Rd w0 r l W) : ∃ a c, W.heap[r]? = some (.cells #[.slice a l.length c] 79 (0, 0)) := by
  obtain ⟨a, c, hr, _⟩ := h.row
  exact ⟨a, c, hr⟩
end Go.Proofs.Ytejbhjcopldekaa
