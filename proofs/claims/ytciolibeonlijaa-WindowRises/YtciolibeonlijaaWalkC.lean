/- The walk over words.Put: the bytes that it answers, in new memory. -/
import Derived.Test.YtciolibeonlijaaWalkB
import Derived.Laws.CopyOwn
namespace Go.Proofs.Ytciolibeonlijaa
set_option maxRecDepth 100000
open Go.RowKit

theorem Try.infoU8 : (Try.prog.info? 5).map (fun i => (i.zero, i.size, i.bytes)) = some (some (.int .u8 0), 1, 1) := by kernel_rfl
theorem Try.info1U8 : (Try.prog.info? 5).map (·.size) = some 1 := by kernel_rfl

/-- What stands in the row when k bytes of the number have been put. -/
def putTo (l : List UInt8) (sz n : Nat) (big : Bool) (k : Nat) : List Value := (l ++ (putB sz n big).take k).map bv
theorem putTo_succ (l : List UInt8) (sz n : Nat) (big : Bool) (k : Nat) (h : k < sz) : putTo l sz n big (k + 1) = putTo l sz n big k ++ [bv (at8 (putB sz n big) k)] := by
  unfold putTo
  rw [take_at _ _ (by rw [putB_length]; exact h)]; simp
/-- 'make([]byte, n, n + m)'. -/
theorem make_bytes (w : World) (n m : Nat) (h : n + m ≤ 2000000) :
    ∃ Z : List Value, Z.length = n + m ∧ (Instr.makeSlice 36 (.int .i64 (n : Int)) (.int .i64 ((n : Int) + (m : Int)))).run Try.prog w = .ok (.slice (some ⟨w.heap.size, 0, none⟩) n (n + m)) (w.alloc (.cells Z.toArray 5)) := by
  obtain ⟨i0, hi, hz0, hz1, hz2⟩ := info_parts Try.infoU8
  have hr := run_make (P := Try.prog) w 36 5 i0 (.int .u8 0) Try.underlying36 hi hz0 .i64 .i64 (n : Int) ((n : Int) + (m : Int)) (by omega) (by omega) (by rw [hz2]; omega) (by omega)
  have e1 : ((n : Int)).toNat = n := by omega
  have e2 : ((n : Int) + (m : Int)).toNat = n + m := by omega
  rw [e1, e2, hz1, Nat.mul_one] at hr
  exact ⟨(madeCells (Value.int .u8 0).cells (n + m)).toList, by simp [size_madeCells], by simpa using hr⟩

/-- 'copy' of bytes to the head of a new row: what is owned behind it. -/
theorem copy_bytes (w : World) (a : Option Addr) (len cap m : Nat) (l : List UInt8) (hB : Byt w a len l) (Z : List Value) (hZ : Z.length = len + m) (hm : len + m ≤ maxLen) :
    ∃ w2, (Builtin.copy_ #[36, 36] 3 #[.slice (some ⟨w.heap.size, 0, none⟩) len (len + m), .slice a len cap]).run Try.prog (w.alloc (.cells Z.toArray 5)) = .ok (.int .i64 (len : Int)) w2 ∧
      w2.ownsRow w.heap.size 5 1 (.slice (some ⟨w.heap.size, 0, none⟩) len (len + m)) len (l.map bv) ∧ Below w.heap.size w w2 := by
  have hl := hB.1
  have hbel : Below w.heap.size w (w.alloc (.cells Z.toArray 5)) := (Below.refl _ _).alloc (Nat.le_refl _) _
  have hg : (w.alloc (.cells Z.toArray 5)).heap[w.heap.size]? = some (.cells Z.toArray 5 (0, 0)) := heap_alloc_new w _
  by_cases h0 : len = 0
  · have hr := run_copy_none (P := Try.prog) (w.alloc (.cells Z.toArray 5)) 36 36 3 5 (some ⟨w.heap.size, 0, none⟩) a len (len + m) len cap Try.underlying36 Try.info1U8 (by rw [h0]; rfl)
    subst h0
    obtain rfl : l = [] := List.eq_nil_of_length_eq_zero hl
    exact ⟨_, hr, ⟨by simp, .inr ⟨w.heap.size, 0 + m, Z.toArray, rfl, Nat.le_refl _, hg, by omega, hm, by simpa using hZ, by simp⟩⟩, hbel⟩
  · rcases hB.2 with h | ⟨b, off, rfl, hc⟩
    · exact absurd h h0
    · have hr := run_copy_row Try.prog (w.alloc (.cells Z.toArray 5)) 36 36 3 5 w.heap.size 0 len (len + m) ⟨b, off, none⟩ len cap Z.toArray 5 (l.map bv) Try.underlying36 Try.info1U8 hg
        (by rw [List.length_map, hl]; exact (Nat.min_self len).symm) ((hB.later hbel).cells _ rfl) (by simp; omega) (bv_oneCell l)
      have hr' := hr
      rw [List.length_map, hl] at hr'
      refine ⟨_, hr', ?_, below_setRow hbel (Nat.le_refl _) _⟩
      · refine ⟨by simp [hl], .inr ⟨w.heap.size, len + m, _, rfl, Nat.le_refl _, setRow_heap _ _ _ _ _ _ hg, by omega, hm, ?_, ?_⟩⟩
        · simp; omega
        · simp [hl]

end Go.Proofs.Ytciolibeonlijaa
