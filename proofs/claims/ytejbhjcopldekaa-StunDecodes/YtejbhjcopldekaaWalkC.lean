/- The walk over words.Put: the bytes that it answers, in new memory. -/
import Derived.Test.YtejbhjcopldekaaWalkB
import Derived.Laws.CopyOwn
namespace Go.Proofs.Ytejbhjcopldekaa
set_option maxRecDepth 100000
open Go.RowKit

theorem Try.infoU8 : (Try.prog.info? 5).map (fun i => (i.zero, i.size, i.bytes)) = some (some (.int .u8 0), 1, 1) := by kernel_rfl
theorem Try.info1U8 : (Try.prog.info? 5).map (·.size) = some 1 := by kernel_rfl

/-- What stands in the row when k bytes of the number have been put. -/
def putTo (l : List UInt8) (sz n : Nat) (big : Bool) (k : Nat) : List Value := (l ++ (putB sz n big).take k).map bv
theorem putTo_succ (l : List UInt8) (sz n : Nat) (big : Bool) (k : Nat) (h : k < sz) : putTo l sz n big (k + 1) = putTo l sz n big k ++ [bv (at8 (putB sz n big) k)] := by
  unfold putTo
  rw [take_at _ _ (by rw [putB_length]; exact h)]; simp
/-- 'make([]byte, n, n + m)'. -/
theorem make_bytes (w : World) (n m : Nat) (h : n + m ≤ 2000000) :
    ∃ Z : List Value, Z.length = n + m ∧ (Instr.makeSlice 32 (.int .i64 (n : Int)) (.int .i64 ((n : Int) + (m : Int)))).run Try.prog w = .ok (.slice (some ⟨w.heap.size, 0, none⟩) n (n + m)) (w.alloc (.cells Z.toArray 5)) := by
  obtain ⟨i0, hi, hz0, hz1, hz2⟩ := info_parts Try.infoU8
  have hr := run_make (P := Try.prog) w 32 5 i0 (.int .u8 0) Try.underlying32 hi hz0 .i64 .i64 (n : Int) ((n : Int) + (m : Int)) (by omega) (by omega) (by rw [hz2]; omega) (by omega)
  have e1 : ((n : Int)).toNat = n := by omega
  have e2 : ((n : Int) + (m : Int)).toNat = n + m := by omega
  rw [e1, e2, hz1, Nat.mul_one] at hr
  exact ⟨(madeCells (Value.int .u8 0).cells (n + m)).toList, by simp [size_madeCells], by simpa using hr⟩

/-- 'copy' of bytes to the head of a new row: what is owned behind it. -/
theorem copy_bytes (w : World) (a : Option Addr) (len cap m : Nat) (l : List UInt8) (hB : Byt w a len l) (Z : List Value) (hZ : Z.length = len + m) (hm : len + m ≤ maxLen) :
    ∃ w2, (Builtin.copy_ #[32, 32] 3 #[.slice (some ⟨w.heap.size, 0, none⟩) len (len + m), .slice a len cap]).run Try.prog (w.alloc (.cells Z.toArray 5)) = .ok (.int .i64 (len : Int)) w2 ∧
      w2.ownsRow w.heap.size 5 1 (.slice (some ⟨w.heap.size, 0, none⟩) len (len + m)) len (l.map bv) ∧ Below w.heap.size w w2 := by
  have hl := hB.1
  have hbel : Below w.heap.size w (w.alloc (.cells Z.toArray 5)) := (Below.refl _ _).alloc (Nat.le_refl _) _
  have hg : (w.alloc (.cells Z.toArray 5)).heap[w.heap.size]? = some (.cells Z.toArray 5 (0, 0)) := heap_alloc_new w _
  by_cases h0 : len = 0
  · have hr := run_copy_none (P := Try.prog) (w.alloc (.cells Z.toArray 5)) 32 32 3 5 (some ⟨w.heap.size, 0, none⟩) a len (len + m) len cap Try.underlying32 Try.info1U8 (by rw [h0]; rfl)
    subst h0
    obtain rfl : l = [] := List.eq_nil_of_length_eq_zero hl
    exact ⟨_, hr, ⟨by simp, .inr ⟨w.heap.size, 0 + m, Z.toArray, rfl, Nat.le_refl _, hg, by omega, hm, by simpa using hZ, by simp⟩⟩, hbel⟩
  · rcases hB.2 with h | ⟨b, off, rfl, hc⟩
    · exact absurd h h0
    · have hr := run_copy_row Try.prog (w.alloc (.cells Z.toArray 5)) 32 32 3 5 w.heap.size 0 len (len + m) ⟨b, off, none⟩ len cap Z.toArray 5 (l.map bv) Try.underlying32 Try.info1U8 hg
        (by rw [List.length_map, hl]; exact (Nat.min_self len).symm) ((hB.later hbel).cells _ rfl) (by simp; omega) (bv_oneCell l)
      have hr' := hr
      rw [List.length_map, hl] at hr'
      refine ⟨_, hr', ?_, below_setRow hbel (Nat.le_refl _) _⟩
      · refine ⟨by simp [hl], .inr ⟨w.heap.size, len + m, _, rfl, Nat.le_refl _, setRow_heap _ _ _ _ _ _ hg, by omega, hm, ?_, ?_⟩⟩
        · simp; omega
        · simp [hl]

set_option maxHeartbeats 400000 in
set_option maxRecDepth 100000 in
theorem put_any (a : Option Addr) (len cap : Nat) (size : Int) (n : Nat) (big : Bool) (l : List UInt8) (w : World) (hm : len ≤ 1000000)
    (hB : Byt w a len l) (sz : Nat) (hsz : (sz : Int) = min (max size 0) 8) :
    Calls Try.prog 55 #[.slice a len cap, .int .i64 size, .int .u64 (n : Int), .bool big] w fun e w' => ∃ g, e = .returned (.slice (some ⟨g, 0, none⟩) (len + sz) (len + sz)) ∧ w.heap.size ≤ g ∧ Below w.heap.size w w' ∧ Byt w' (some ⟨g, 0, none⟩) (len + sz) (l ++ putB sz n big) := by
  have hB' := hB
  obtain ⟨hl, hB⟩ := hB
  obtain ⟨mx, e1⟩ : ∃ mx : Int, (if size < 0 then (0 : Int) else size) = mx := ⟨_, rfl⟩
  have e2 : (if 8 < mx then (8 : Int) else mx) = (sz : Int) := by rw [hsz, ← e1]; split <;> split <;> omega
  have hs8 : sz ≤ 8 := by omega
  clear hsz
  go_enter Try.func55, Try.ntmps55
  obtain ⟨Z, hZl, hmk⟩ := make_bytes w len sz (by omega)
  obtain ⟨w2, hcp, hown2, hb2⟩ := copy_bytes w a len cap sz l hB' Z hZl (by unfold maxLen; omega)
  obtain ⟨i0, hi, hz0, hz1, hz2⟩ := info_parts Try.infoU8
  have hbd2 := hb2.size
  go_wp2
  go_loopw [9, 25] (fun v i wr => ∃ k : Nat, k ≤ sz ∧ i = .int .i64 k ∧ v = .slice (some ⟨w.heap.size, 0, none⟩) (len + k) (len + sz) ∧
      wr.ownsRow w.heap.size 5 1 (.slice (some ⟨w.heap.size, 0, none⟩) (len + k) (len + sz)) (len + k) (putTo l sz n big k) ∧ Below w.heap.size w wr) (fun _ i _ => sz - (intOf i).toNat)
  case atStart => exact ⟨0, Nat.zero_le _, rfl, rfl, by simpa [putTo] using hown2, hb2⟩
  case round =>
    obtain ⟨k, hk, rfl, rfl, hown, hbel⟩ := hrel
    by_cases hlt : k < sz
    · obtain ⟨hp0, hp1⟩ := posI_bound big sz k (by omega) (by omega)
      go_wp2_with fail
      refine (shift_any _ _ _ _ (by omega) (by omega) (by omega)).mono ?_
      rintro e w' ⟨rfl, rfl⟩
      go_wp2_with (first
        | (at_builtin; refine wpList_append_fits _ rfl (.tmp 28) (.tmp 36) 32 rfl w.heap.size 5 i0 1 Try.underlying32 hi hz1 w.heap.size (len + k) (len + sz) (putTo l sz n big k) rfl ?c0 ⟨w'.heap.size, 0, none⟩ 1 1 [bv (at8 (putB sz n big) k)] rfl rfl ?c1 ?c2 ?c3 ?_))
      case c0 => exact hown.alloc _
      case c1 =>
        have hv : bv (at8 (putB sz n big) k) = .int .u8 ((n : Int) / 2 ^ (8 * posI big sz k).toNat % 256) := by unfold bv; rw [putB_at sz n big k hlt]
        rw [hv]
        exact cell_one_new _ _ _
      case c2 => exact bv_oneCell [at8 (putB sz n big) k]
      case c3 => omega
      intro w1 hown1 hgrow1
      have hb1 : Below w.heap.size w w1 := ((hbel.alloc hbel.size _).grown hgrow1 (by have := hbel.size; simp; omega) (by intro j hj; cases hj; exact Nat.le_refl _))
      have H1 : Hid (w1.ownsRow w.heap.size 5 1 (.slice (some ⟨w.heap.size, 0, none⟩) (len + (k + 1)) (len + sz)) (len + (k + 1)) (putTo l sz n big (k + 1))) := by
        show World.ownsRow _ _ _ _ _ _ _
        rw [putTo_succ l sz n big k hlt]; exact hown1
      clear hown1
      go_wp2
      exact ⟨⟨k + 1, by omega, by go_num, rfl, H1.out, hb1⟩, by simp [intOf]; omega⟩
    · go_wp2
      go_ret
      have ek : k = sz := by omega
      subst ek
      refine ⟨w.heap.size, rfl, Nat.le_refl _, hbel, ?_⟩
      have hf := Byt.ofOwn (l := l ++ (putB k n big).take k) hown
      rwa [List.take_of_length_le (by rw [putB_length]; exact Nat.le_refl _)] at hf
end Go.Proofs.Ytejbhjcopldekaa
