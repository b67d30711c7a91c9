/- The walks over words.Same and words.Xor. -/
import Derived.Test.YtcnihgjibiidpaaWalkC
import Derived.Laws.BytesArg
namespace Go.Proofs.Ytcnihgjibiidpaa
open Go.RowKit

/-- Bytes as a text. -/
def S (l : List UInt8) : ByteArray := ⟨l.toArray⟩
theorem S_inj {l m : List UInt8} : S l = S m ↔ l = m := by
  unfold S
  constructor
  · intro h
    have := congrArg (fun b : ByteArray => b.data.toList) h
    simpa using this
  · intro h; rw [h]
theorem S_toList (l : List UInt8) : (S l).toList = l := by rw [ByteArray.toList_eq]; rfl
theorem S_beq (l m : List UInt8) : ((S l).toList == (S m).toList) = decide (l = m) := by
  rw [S_toList, S_toList]
  by_cases h : l = m
  · rw [h]; simp
  · simp [h]
theorem conv_bytes (w : World) (a : Option Addr) (len cap : Nat) (l : List UInt8) (hB : Byt w a len l) :
    (convert 24 9 (.slice a len cap)).run Try.prog w = .ok (.string (S l)) w := by
  have hl := hB.1
  rcases hB.2 with h0 | ⟨b, off, rfl, hc⟩
  · have e : l = [] := List.eq_nil_of_length_eq_zero (by omega)
    subst e
    cases a with
    | none => exact run_convert_bytes_nil (P := Try.prog) w 24 5 Try.underlying24 Try.underlying5 len cap 9 Try.underlying9
    | some x =>
      rw [run_convert_bytes_string w 24 9 5 _ len cap Try.underlying24 Try.underlying5 Try.underlying9]
      rw [run_bytesToString w x len cap [] (by rw [h0]; rfl)]
      rfl
  · have h := run_convert_bytes_arg (P := Try.prog) w 24 5 Try.underlying24 Try.underlying5 b off len cap (l.map fun c => (c.toNat : Int)) (by simpa using hl)
      (fun i hi => by
        rw [hc i hi, at8_get l i (by omega)]
        simp [show i < l.length by omega]) 9 Try.underlying9
    rw [h]
    have e : strOfNums (l.map fun c => (c.toNat : Int)) = S l := by
      unfold strOfNums S
      rw [List.map_map]
      congr 2
      have hid : ((fun n : Int => UInt8.ofNat n.toNat) ∘ fun c : UInt8 => (c.toNat : Int)) = id := by
        funext c
        simp
      rw [hid, List.map_id]
    rw [e]

theorem ret_bool {a b : Bool} (h : a = b) : Ending.returned (.bool a) = .returned (.bool b) := by rw [h]
set_option maxHeartbeats 400000 in
set_option maxRecDepth 100000 in
theorem equal_any (a b : Option Addr) (len cap lenb capb : Nat) (l m : List UInt8) (w : World) (hA : Byt w a len l) (hB : Byt w b lenb m) :
    Calls Try.prog 52 #[.slice a len cap, .slice b lenb capb] w fun e w' => e = .returned (.bool (decide (l = m))) ∧ w' = w := by
  have h1 := conv_bytes w a len cap l hA
  have h2 := conv_bytes w b lenb capb m hB
  go_enter Try.func52, Try.ntmps52
  go_wp2
  go_ret
  exact ⟨ret_bool (S_beq l m), rfl⟩

set_option maxHeartbeats 400000 in
set_option maxRecDepth 100000 in
theorem same_any (a b : Option Addr) (len cap lenb capb : Nat) (l m : List UInt8) (w : World) (hA : Byt w a len l) (hB : Byt w b lenb m) :
    Calls Try.prog 36 #[.slice a len cap, .slice b lenb capb] w fun e w' => e = .returned (.bool (decide (l = m))) ∧ w' = w := by
  go_enter Try.func36, Try.ntmps36
  go_wp2_with (go_at_call 52; refine (equal_any _ _ _ _ _ _ l m _ hA hB).mono ?_; rintro e w' ⟨rfl, rfl⟩)
  go_ret
  exact ⟨rfl, rfl⟩

/-- The bits in which bytes differ, as far as both go. -/
def xorB (l m : List UInt8) : List UInt8 := List.zipWith (· ^^^ ·) l m
theorem xor_val8 (a b : UInt8) : bits .xor .u8 (a.toNat : Int) (b.toNat : Int) = ((a ^^^ b).toNat : Int) := by
  rw [u8_xor_nat _ _ (a.toNat_lt) (b.toNat_lt), UInt8.toNat_xor]
theorem xorB_length (l m : List UInt8) : (xorB l m).length = min l.length m.length := by simp [xorB]
theorem xorB_at (l m : List UInt8) (k : Nat) (h1 : k < l.length) (h2 : k < m.length) : at8 (xorB l m) k = at8 l k ^^^ at8 m k := by
  rw [at8_get _ _ (by rw [xorB_length]; omega), at8_get _ _ h1, at8_get _ _ h2]
  simp [xorB]
/-- What stands in the new row when k places are done. -/
def xorTo (l m : List UInt8) (n k : Nat) : List Value := ((xorB l m).take k).map bv ++ List.replicate (n - k) (.int .u8 0)
theorem xorTo_succ (l m : List UInt8) (n k : Nat) (hn : n = min l.length m.length) (h : k < n) : (xorTo l m n k).set k (bv (at8 l k ^^^ at8 m k)) = xorTo l m n (k + 1) := by
  unfold xorTo
  have hk : (((xorB l m).take k).map bv).length = k := by simp [xorB_length]; omega
  rw [List.set_append_right _ _ (by rw [hk]; exact Nat.le_refl _), hk, Nat.sub_self, take_at _ _ (by rw [xorB_length]; omega), xorB_at _ _ _ (by omega) (by omega)]
  rw [show n - k = (n - (k + 1)) + 1 by omega, List.replicate_succ]
  simp

theorem make_full (w : World) (n : Nat) (h : n ≤ 2000000) :
    ∃ w1, (Instr.makeSlice 24 (.int .i64 (n : Int)) (.int .i64 (n : Int))).run Try.prog w = .ok (.slice (some ⟨w.heap.size, 0, none⟩) n n) w1 ∧
      w1.ownsRow w.heap.size 5 1 (.slice (some ⟨w.heap.size, 0, none⟩) n n) n (List.replicate n (.int .u8 0)) ∧ Below w.heap.size w w1 := by
  obtain ⟨i0, hi, hz0, hz1, hz2⟩ := info_parts Try.infoU8
  obtain ⟨w1, h1, h2, h3⟩ := run_make_full (P := Try.prog) w w.heap.size 24 5 i0 (.int .u8 0) 1 Try.underlying24 hi hz0 hz1 .i64 .i64 n (by rw [hz2]; omega) (by unfold maxLen; omega) (Nat.le_refl _)
  refine ⟨w1, h1, ?_, (Below.refl _ _).grown h3 (Nat.le_refl _) (by intro k hk; cases hk)⟩
  have e : (madeCells (Value.int .u8 0).cells (n * 1)).toList = List.replicate n (.int .u8 0) := by
    rw [Nat.mul_one]; exact toList_madeCells_one _ _
  rwa [e] at h2

set_option maxHeartbeats 400000 in
set_option maxRecDepth 100000 in
theorem xor_any (a b : Option Addr) (len cap lenb capb : Nat) (l m : List UInt8) (w : World) (hA : Byt w a len l) (hB : Byt w b lenb m) (hla : len ≤ 1000000) (hlb : lenb ≤ 1000000) :
    Calls Try.prog 40 #[.slice a len cap, .slice b lenb capb] w fun e w' => ∃ g, e = .returned (.slice (some ⟨g, 0, none⟩) (min len lenb) (min len lenb)) ∧ w.heap.size ≤ g ∧ Below w.heap.size w w' ∧ Byt w' (some ⟨g, 0, none⟩) (min len lenb) (xorB l m) := by
  obtain ⟨n, hn⟩ : ∃ n, n = min len lenb := ⟨_, rfl⟩
  rw [← hn]
  obtain ⟨w1, hmk, hown1, hb1⟩ := make_full w n (by omega)
  have e1 : (if lenb < len then (lenb : Int) else (len : Int)) = (n : Int) := by split <;> omega
  have Hn : Hid (n = min len lenb) := hn
  have hn1 : n ≤ len := by omega
  have hn2 : n ≤ lenb := by omega
  clear hn
  go_enter Try.func40, Try.ntmps40
  go_wp2
  go_loopw [15] (fun i wr => ∃ k : Nat, k ≤ n ∧ i = .int .i64 k ∧ wr.ownsRow w.heap.size 5 1 (.slice (some ⟨w.heap.size, 0, none⟩) n n) n (xorTo l m n k) ∧ Below w.heap.size w wr) (fun i _ => n - (intOf i).toNat)
  case atStart => exact ⟨0, Nat.zero_le _, rfl, by simpa [xorTo] using hown1, hb1⟩
  case round =>
    obtain ⟨k, hk, rfl, hown, hbel⟩ := hrel
    have hlA := hA.1
    have hlB := hB.1
    by_cases hlt : k < n
    · rcases hA.2 with h0 | ⟨ba, offa, rfl, hca⟩
      · omega
      rcases hB.2 with h0 | ⟨bb, offb, rfl, hcb⟩
      · omega
      have hca' := hca k (by omega)
      have hcb' := hcb k (by omega)
      have hba := World.block_lt_of_cell? w _ hca'
      have hbb := World.block_lt_of_cell? w _ hcb'
      have ha1 : wr.cell? ⟨ba, offa + k, none⟩ = some (.int .u8 ((at8 l k).toNat : Int)) := by rw [hbel.cell (p := ⟨ba, offa + k, none⟩) hba]; exact hca'
      have hb2 : wr.cell? ⟨bb, offb + k, none⟩ = some (.int .u8 ((at8 m k).toNat : Int)) := by rw [hbel.cell (p := ⟨bb, offb + k, none⟩) hbb]; exact hcb'
      have hc0 := hown.cellAt k (by omega)
      have hfr := hown.frozenAt k
      obtain ⟨v0, hv0⟩ : ∃ v0, wr.cell? ⟨w.heap.size, k, none⟩ = some v0 := by
        rw [hc0]
        have : k < (xorTo l m n k).length := by have := hown.1; omega
        exact ⟨_, List.getElem?_eq_getElem this⟩
      have i1 : (k : Int) < (len : Int) := by omega
      have i2 : (k : Int) < (lenb : Int) := by omega
      have i3 : (k : Int) < (n : Int) := by omega
      have xv := xor_val8 (at8 l k) (at8 m k)
      clear hc0 hca hcb hown1 hb1 hmk
      have H1 : Hid ((wr.setCell ⟨w.heap.size, k, none⟩ (.int .u8 ((at8 l k ^^^ at8 m k).toNat : Int))).ownsRow w.heap.size 5 1 (.slice (some ⟨w.heap.size, 0, none⟩) n n) n (xorTo l m n (k + 1))) := by
        show World.ownsRow _ _ _ _ _ _ _
        rw [← xorTo_succ l m n k (by rw [hlA, hlB]; exact Hn.out) hlt]
        exact (hown.stored k _).1
      go_wp2
      go_region
      go_wp2
      exact ⟨⟨k + 1, by omega, by go_num, H1.out.drew, (hbel.setCell (Nat.le_refl _) _).drew⟩, by simp [intOf]; omega⟩
    · have ek : k = n := by omega
      subst ek
      go_wp2
      go_ret
      refine ⟨w.heap.size, rfl, Nat.le_refl _, hbel, ?_⟩
      have hf : wr.ownsRow w.heap.size 5 1 (.slice (some ⟨w.heap.size, 0, none⟩) k k) k ((xorB l m).map bv) := by
        have e : xorTo l m k k = (xorB l m).map bv := by
          unfold xorTo
          rw [List.take_of_length_le (by rw [xorB_length, hlA, hlB, ← Hn.out]; exact Nat.le_refl _)]
          simp
        rw [← e]; exact hown
      exact Byt.ofOwn hf
end Go.Proofs.Ytcnihgjibiidpaa
