/- Bytes of one's own that grow: made, and appended to (stage 12). -/
import Derived.Test.YtejbhjcopldekaaAppW
import Derived.Lib.AppendStr
import Derived.Lib.ConvBytes
namespace Go.Proofs.Ytejbhjcopldekaa
set_option linter.unusedVariables false
set_option maxRecDepth 100000
open Go.RowKit

/-- Bytes in a row that has come since w. -/
def NewB (w W : World) (v : Value) (l : List UInt8) : Prop := Below w.heap.size w W ∧ W.ownsRow w.heap.size 5 1 v l.length (l.map bv)
section
variable {w W W' : World} {v : Value} {l : List UInt8}
theorem NewB.lit (hb : Below w.heap.size w W) (l : List UInt8) (cs : Array Value) (hcs : cs = (l.map bv).toArray) (hm : l.length ≤ 1000000) :
    NewB w (W.alloc (.cells cs 5)) (.slice (some ⟨W.heap.size, 0, none⟩) l.length l.length) l := by
  subst hcs
  exact ⟨hb.alloc hb.size _, by simp, .inr ⟨W.heap.size, l.length, _, rfl, hb.size, heap_alloc_new W _, Nat.le_refl _, by unfold maxLen; omega, by simp, by simp [List.take_of_length_le]⟩⟩
theorem NewB.parts (h : NewB w W v l) : ∃ a c, v = .slice a l.length c ∧ Byt W a l.length l ∧ l.length ≤ c ∧ c ≤ maxLen ∧ (a = none → c = 0) := own_parts h.2
theorem NewB.at_ {a : Option Addr} {n c : Nat} (h : NewB w W (.slice a n c) l) (hn : l.length = n) : Byt W a n l ∧ n ≤ c ∧ c ≤ maxLen ∧ (a = none → c = 0) := by
  subst hn
  obtain ⟨a', c', e, h1, h2, h3, h4⟩ := h.parts
  cases e
  exact ⟨h1, h2, h3, h4⟩
theorem NewB.later (h : NewB w W v l) (hb : Below W.heap.size W W') : NewB w W' v l := by
  refine ⟨h.1.trans (hb.mono h.1.size), ?_⟩
  have h2 := h.2
  refine ⟨h2.1, ?_⟩
  rcases h2.2 with h0 | ⟨g, cap, cur, rfl, hbg, hg, h3⟩
  · exact .inl h0
  · exact .inr ⟨g, cap, cur, rfl, hbg, by rw [hb.block g (Array.getElem?_eq_some_iff.1 hg).1]; exact hg, h3⟩
theorem NewB.trans (hb : Below w.heap.size w W) (h : NewB W W' v l) : NewB w W' v l := ⟨hb.trans (h.1.mono hb.size), own_lower h.2 hb.size⟩
theorem NewB.grown (h : NewB w W v l) {w2 : World} (hg : W.grownBy w2 v.ownBlock) : Below w.heap.size w w2 := h.1.grown hg h.1.size (fun k hk => (h.2.lt k hk).1)
theorem NewB.many (h : NewB w W v l) (a : Option Addr) (len cap : Nat) (k : List UInt8) (hB : Byt W a len k) (hnil : a = none → cap = 0) (hm : l.length + len ≤ 100000) :
    ∃ a2 c2 w2, (Builtin.append_ #[32, 32] 32 #[v, .slice a len cap]).run Try.prog W = .ok (.slice a2 (l.length + len) c2) w2 ∧ NewB w w2 (.slice a2 (l.length + len) c2) (l ++ k) := by
  obtain ⟨v', w', hr, ho, hg⟩ := append_own_any W w.heap.size v l.length l h.2 a len cap k hB hnil h.1.size (by omega)
  obtain ⟨a2, c2, rfl, _⟩ := own_parts ho
  refine ⟨a2, c2, w', hr, h.grown hg, ?_⟩
  rw [List.length_append, hB.1]
  exact ho
theorem NewB.many2 (h : NewB w W v l) (a : Option Addr) (len cap : Nat) (k : List UInt8) (hB : Byt W a len k) (hnil : a = none → cap = 0) (hm : l.length + len ≤ 100000) :
    ∃ a2 c2 w2, (Builtin.append_ #[32, 32] 32 #[v, .slice a len cap]).run Try.prog W = .ok (.slice a2 (l.length + len) c2) w2 ∧ NewB w w2 (.slice a2 (l.length + len) c2) (l ++ k) ∧ Below w.heap.size W w2 := by
  obtain ⟨v', w', hr, ho, hg⟩ := append_own_any W w.heap.size v l.length l h.2 a len cap k hB hnil h.1.size (by omega)
  obtain ⟨a2, c2, rfl, _⟩ := own_parts ho
  refine ⟨a2, c2, w', hr, ⟨h.grown hg, ?_⟩, (Below.refl _ _).grown hg h.1.size (fun k hk => (h.2.lt k hk).1)⟩
  rw [List.length_append, hB.1]
  exact ho
theorem NewB.one {a : Option Addr} {n c : Nat} (h : NewB w W (.slice a n c) l) (hn : l.length = n) (x : UInt8) (hm : n ≤ 100000) :
    ∃ a2 c2 w2, (Builtin.append_ #[32, 32] 32 #[.slice a n c, .slice (some ⟨W.heap.size, 0, none⟩) 1 1]).run Try.prog (W.alloc (.cells #[bv x] 5)) = .ok (.slice a2 (n + 1) c2) w2 ∧ NewB w w2 (.slice a2 (n + 1) c2) (l ++ [x]) := by
  subst hn
  have hB : Byt (W.alloc (.cells #[bv x] 5)) (some ⟨W.heap.size, 0, none⟩) 1 [x] := byt_lit _ [x] W.heap.size _ _ _ (heap_alloc_new W _) rfl
  have h1 : NewB w (W.alloc (.cells #[bv x] 5)) (.slice a l.length c) l := h.later ((Below.refl _ _).alloc (Nat.le_refl _) _)
  obtain ⟨v', w', hr, ho, hg⟩ := append_bytes _ w.heap.size _ l.length l h1.2 ⟨W.heap.size, 0, none⟩ 1 1 [x] hB h1.1.size (by omega)
  obtain ⟨a2, c2, rfl, _⟩ := own_parts ho
  exact ⟨a2, c2, w', hr, h1.grown hg, by rw [List.length_append]; exact ho⟩
theorem strCells_S (k : List UInt8) : Lib.strCells (S k) = k.map bv := by
  unfold Lib.strCells S bv
  simp
theorem NewB.str (h : NewB w W v l) (k : List UInt8) (hm : l.length + k.length ≤ 100000) :
    ∃ a2 c2 w2, (Builtin.append_ #[32, 9] 32 #[v, .string (S k)]).run Try.prog W = .ok (.slice a2 (l.length + k.length) c2) w2 ∧ NewB w w2 (.slice a2 (l.length + k.length) c2) (l ++ k) := by
  obtain ⟨i0, hi, hz0, hz1, hz2⟩ := info_parts Try.infoU8
  have hs : (S k).size = k.length := by unfold S; simp [ByteArray.size]
  obtain ⟨v', w', hr, ho, hg, _⟩ := Lib.run_append_own_string (P := Try.prog) W w.heap.size 32 9 32 5 i0 Try.underlying32 Try.underlying9 hi hz0 hz1 hz2 v l.length (l.map bv) h.2 (S k) (by rw [hs]; unfold maxLen; omega) (by rw [hs]; omega) h.1.size
  rw [hs, strCells_S, ← List.map_append] at ho
  obtain ⟨a2, c2, rfl, _⟩ := own_parts ho
  exact ⟨a2, c2, w', hr, h.grown hg, by rw [List.length_append]; exact ho⟩
end
/-- '[]byte(s)'. -/
theorem str_conv (W : World) (l : List UInt8) : (convert 9 32 (.string (S l))).run Try.prog W = .ok (.slice (some ⟨W.heap.size, 0, none⟩) (S l).size (grownCap W (S l).size 0 5)) (Lib.bytesWorld W 5 (S l)) :=
  Lib.run_convert_string_bytes W 9 32 5 (S l) Try.underlying9 Try.underlying32 Try.underlying5
theorem str_below (W : World) (e : TypeId) (s : ByteArray) : Below W.heap.size W (Lib.bytesWorld W e s) :=
  ⟨rfl, rfl, rfl, by rw [Lib.bytesWorld_size]; omega, fun k hk => Lib.bytesWorld_at_old W e s k hk⟩
theorem str_byt (W : World) (e : TypeId) (l : List UInt8) : Byt (Lib.bytesWorld W e (S l)) (some ⟨W.heap.size, 0, none⟩) l.length l := by
  refine ⟨rfl, .inr ⟨_, 0, rfl, fun i hi => ?_⟩⟩
  rw [Nat.zero_add, Lib.bytesWorld_cell W e (S l) i hi]
  congr 1
end Go.Proofs.Ytejbhjcopldekaa
