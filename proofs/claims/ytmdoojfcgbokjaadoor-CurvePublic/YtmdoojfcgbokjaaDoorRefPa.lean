/- The walks over the document's trim and Carry. -/
import Derived.Test.YtmdoojfcgbokjaaDoorBase
import Derived.Test.YtmdoojfcgbokjaaDoorMathDig
namespace Go.Proofs.YtmdoojfcgbokjaaDoor
set_option linter.unusedVariables false
open Go.RowKit

/-- A whole number as a value. -/
def iv (x : Nat) : Value := .int .i64 (x : Int)
/-- The whole numbers that a slice leads to. -/
def Ints (w : World) (a : Option Addr) (len : Nat) (l : List Nat) : Prop :=
  l.length = len ∧ (len = 0 ∨ ∃ b off, a = some ⟨b, off, none⟩ ∧ ∀ i, i < len → w.cell? ⟨b, off + i, none⟩ = some (.int .i64 (atD l i : Int)))
theorem Ints.later {w w' : World} {a : Option Addr} {len : Nat} {l : List Nat} (h : Ints w a len l) (hb : Below w.heap.size w w') : Ints w' a len l := by
  refine ⟨h.1, ?_⟩
  rcases h.2 with h0 | ⟨b, off, e, hc⟩
  · exact .inl h0
  · refine .inr ⟨b, off, e, fun i hi => ?_⟩
    have := hc i hi
    rw [hb.cell (p := ⟨b, off + i, none⟩) (World.block_lt_of_cell? w _ this)]
    exact this
theorem Ints.cut {w : World} {a : Option Addr} {len q : Nat} {l : List Nat} (h : Ints w a len l) (hq : q ≤ len) : Ints w a q (l.take q) := by
  have hl := h.1
  refine ⟨by simp; omega, ?_⟩
  rcases h.2 with h0 | ⟨b, off, e, hc⟩
  · exact .inl (by omega)
  · refine .inr ⟨b, off, e, fun i hi => ?_⟩
    rw [hc i (by omega)]
    simp [atD, hi]
theorem Ints.at_ {w : World} {a : Option Addr} {len : Nat} {l : List Nat} (h : Ints w a len l) (k : Nat) (hk : k < len) : ∃ b off, a = some ⟨b, off, none⟩ ∧ w.cell? ⟨b, off + k, none⟩ = some (.int .i64 (atD l k : Int)) := by
  rcases h.2 with h0 | ⟨b, off, e, hc⟩
  · omega
  · exact ⟨b, off, e, hc k hk⟩
theorem iv_oneCell (l : List Nat) : ∀ u ∈ l.map iv, u.oneCell' = true := by
  intro u hu
  simp only [List.mem_map] at hu
  obtain ⟨c, _, rfl⟩ := hu
  rfl
theorem Ints.ofSeg {w : World} {e : TypeId} {a : Option Addr} {n cap : Nat} {l : List Nat} (h : Seg w e a n cap (l.map iv)) : Ints w a n l := by
  have hl : l.length = n := by have := h.1; simpa using this
  refine ⟨hl, ?_⟩
  by_cases h0 : n = 0
  · exact .inl h0
  · obtain ⟨g, off, rfl, _, _⟩ := h.cell 0 (by omega)
    refine .inr ⟨g, off, rfl, fun i hi => ?_⟩
    obtain ⟨g', off', e, hc, _⟩ := h.cell i hi
    cases e
    rw [hc, List.getElem?_map, atD_get l i (by omega)]
    simp [iv, show i < l.length by omega]
theorem Tryd.infoI64 : (Tryd.prog.info? 3).map (fun i => (i.zero, i.size, i.bytes)) = some (some (.int .i64 0), 1, 8) := by kernel_rfl

set_option maxHeartbeats 400000 in
set_option maxRecDepth 100000 in
theorem refTrim_any (a : Option Addr) (len cap : Nat) (l : List Nat) (w : World) (hI : Ints w a len l) (hd : ∀ x ∈ l, x < 256) (hlc : len ≤ cap) (hlm : len ≤ 1000000) :
    Calls Tryd.prog 51 #[.slice a len cap] w fun e w' => ∃ n, e = .returned (.slice a n cap) ∧ w' = w ∧ n ≤ len ∧ l.take n = dig (valD l) := by
  have hl := hI.1
  have HI : Hid (Ints w a len l) := hI
  have HD : Hid (∀ x ∈ l, x < 256) := hd
  clear hI hd
  go_enter Tryd.func51, Tryd.ntmps51
  go_wp2
  go_loop [0] (fun v => ∃ n : Nat, n ≤ len ∧ v = .slice a n cap ∧ Hid (valD (l.take n) = valD l)) (fun v => match v with | .slice _ n _ => n | _ => 0)
  case atStart => exact ⟨len, Nat.le_refl _, rfl, by rw [List.take_of_length_le (by omega)]; exact rfl⟩
  case round =>
    obtain ⟨n, hn, rfl, hV⟩ := hrel
    by_cases h0 : n = 0
    · subst h0
      have HR : Hid (l.take 0 = dig (valD l)) := by have := hV.out; rw [List.take_zero] at this ⊢; rw [← this]; exact dig_zero.symm
      go_wp2
      go_ret
      exact ⟨0, rfl, rfl, by omega, HR.out⟩
    · obtain ⟨m, rfl⟩ : ∃ m, n = m + 1 := ⟨n - 1, by omega⟩
      obtain ⟨b, off, rfl, hc⟩ := HI.out.at_ m (by omega)
      have hpos : (0 : Int) < ((m + 1 : Nat) : Int) := by omega
      have hidx : ((m + 1 : Nat) : Int) - 1 = (m : Int) := by omega
      by_cases hz : atD l m = 0
      · have hzi : (atD l m : Int) = 0 := by omega
        rw [hzi] at hc
        have HV : Hid (valD (l.take m) = valD l) := by
          have := hV.out
          rw [valD_trim l m (by omega) hz] at this
          exact this
        clear hV
        go_wp2
        exact ⟨⟨m, by omega, rfl, HV⟩, by simp⟩
      · have hzi : ¬ (atD l m : Int) = 0 := by omega
        have HR : Hid (l.take (m + 1) = dig (valD l)) := by
          show _ = _
          rw [← hV.out]
          symm
          refine dig_valD _ (fun x hx => HD.out x (List.mem_of_mem_take hx)) (fun x hx => ?_)
          rw [take_snoc l m (by omega)] at hx
          simp at hx
          omega
        clear hV
        go_wp2
        go_ret
        exact ⟨m + 1, rfl, rfl, by omega, HR.out⟩
end Go.Proofs.YtmdoojfcgbokjaaDoor
