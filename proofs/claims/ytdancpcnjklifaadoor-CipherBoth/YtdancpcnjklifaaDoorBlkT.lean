/- What the program's text lays in its tables (blake), out of the condition of a row that lists them. -/
import Derived.Test.YtdancpcnjklifaaDoorRows
import Derived.Test.YtdancpcnjklifaaDoorBlkC
import Derived.ProofKit
import Derived.LaidMore
import Derived.OpenShut
import Derived.Stop.Joined
namespace Go.Proofs.YtdancpcnjklifaaDoor
set_option linter.unusedVariables false
set_option maxRecDepth 100000
open Go.ChangeShapes Go.WideShapes Go.ChangeAt Go.RowKit

/-- An array of integers, read as known ones. -/
theorem ints_of_trod {H : Type} {enc : TypeId × Value → H} {P : Program} {W : World} {base : Nat} {sp : Nat → Bool} {held : Bool} {fuel n : Nat} {t e : TypeId} {k : IntKind} {cs : List Value} {d : DataW H} {p : List MemPlace}
    (ht : P.underlying t = some (.array n e)) (he : P.underlying e = some (.int k)) (hc : P.cellsOf e = 1) (hct : P.cellsOf t = n) (h : DataW.trod enc P W base sp held fuel t cs = some (d, p)) (zs : List Int) (hd : d = .agg (zs.map fun z => .lit (.int k z))) :
    cs = zs.map fun z => .int k z := by
  obtain ⟨xs, m, rfl, hx, hlen, hn, hel⟩ := DataW.trod_array ht h
  simp only [Prod.mk.injEq] at hx
  have hx1 := hx.1
  rw [hd, DataW.agg.injEq] at hx1
  have hl : zs.length = n := by
    have := congrArg List.length hx1
    simpa [hn] using this
  apply List.ext_getElem
  · simp [hl, hlen, hct]
  · intro i h1 h2
    have hi : i < n := by simp at h2; omega
    have he1 := hel i hi
    rw [hc, Nat.mul_one, List.getElem?_eq_getElem (by omega)] at he1
    obtain ⟨z, e1, e2, _⟩ := DataW.trod_int he he1
    have e3 : cs[i] = .int k z := by
      have := congrArg (fun l : List Value => l[0]?) e1
      simpa [List.getElem?_take, List.getElem?_drop, h1] using this
    have e4 : (DataW.lit (.int k (zs[i]'(by omega))) : DataW H) = (xs[i]'(by omega)).1 := by
      have := congrArg (fun l : List (DataW H) => l[i]?) hx1
      simpa [show i < zs.length by omega, show i < xs.length by omega] using this
    rw [e2] at e4
    have e5 : zs[i]'(by omega) = z := by simpa using e4
    rw [e3]
    simp [e5]
theorem chunk (l : List Value) (i j : Nat) (hj : i + 16 = j) : l.drop i = (l.drop i).take 16 ++ l.drop j := by
  rw [← hj, ← List.drop_drop]
  exact (List.take_append_drop 16 _).symm
theorem var_row {P : Program} {w : World} {n : String} {g : Nat} {cs : Array Value} (hg : P.globalNamed n = some g) (h : w.var? P n = some cs) : ∃ t fr, w.heap[g]? = some (.cells cs t fr) := by
  simp only [World.var?, hg, Option.bind_some] at h
  split at h
  · rename_i hh
    cases h
    exact ⟨_, _, hh⟩
  · cases h
def rowD (i : Nat) : DataW Unit := .agg (((List.range 16).map fun k => ((sig i k : Nat) : Int)).map fun z => .lit (.int .u8 z))
def ivZ : List Int := ivB.map fun x => (x.toNat : Int)
def ivD : DataW Unit := .agg (ivZ.map fun z => .lit (.int .u32 z))
/-- The tables as data: what the rows of this seat list. -/
def blakeLaid : List (String × DataW Unit) := [("hatchway/blake.iv", Rows.laid_hatchway_blake_iv), ("hatchway/blake.rows", Rows.laid_hatchway_blake_rows)]
theorem gIv : Tryd.prog.globalNamed "hatchway/blake.iv" = some 0 := by kernel_rfl
theorem gRows : Tryd.prog.globalNamed "hatchway/blake.rows" = some 1 := by kernel_rfl
theorem tIv : (Tryd.prog.globals[0]?).map (·.type) = some 88 := by kernel_rfl
theorem tRows : (Tryd.prog.globals[1]?).map (·.type) = some 114 := by kernel_rfl
theorem laid_iv : (Rows.laid_hatchway_blake_iv : DataW Unit) = ivD := by kernel_rfl
theorem laid_rows : (Rows.laid_hatchway_blake_rows : DataW Unit) = .agg [rowD 0, rowD 1, rowD 2, rowD 3, rowD 4, rowD 5, rowD 6, rowD 7, rowD 8, rowD 9] := by kernel_rfl
theorem tab_of_vars {W : World} {cs0 cs1 : Array Value} {f0 f1 : Nat} {p0 p1 : List MemPlace} (hv0 : W.var? Tryd.prog "hatchway/blake.iv" = some cs0) (hd0 : DataW.trod (fun _ => ()) Tryd.prog W 0 (fun _ => true) false f0 88 cs0.toList = some (Rows.laid_hatchway_blake_iv, p0))
    (hv1 : W.var? Tryd.prog "hatchway/blake.rows" = some cs1) (hd1 : DataW.trod (fun _ => ()) Tryd.prog W 0 (fun _ => true) false f1 114 cs1.toList = some (Rows.laid_hatchway_blake_rows, p1)) : Tab W := by
  refine ⟨?_, ?_⟩
  · obtain ⟨t, fr, h⟩ := var_row gIv hv0
    have e := ints_of_trod Tryd.underlying88 Tryd.underlying80 (by kernel_rfl) (by kernel_rfl) hd0 ivZ laid_iv
    have e2 : cs0 = (ivB.map uv).toArray := by
      rw [← Array.toArray_toList (xs := cs0), e, ivZ, List.map_map]
      rfl
    rw [e2] at h
    exact ⟨t, fr, h⟩
  · obtain ⟨t, fr, h⟩ := var_row gRows hv1
    obtain ⟨xs, m, rfl, hx, hlen, hn, hel⟩ := DataW.trod_array Tryd.underlying114 hd1
    simp only [Prod.mk.injEq, laid_rows, DataW.agg.injEq] at hx
    have hx1 := hx.1
    have c16 : Tryd.prog.cellsOf 69 = 16 := by kernel_rfl
    have c160 : Tryd.prog.cellsOf 114 = 160 := by kernel_rfl
    rw [c160] at hlen
    have hrow : ∀ i, i < 10 → (cs1.toList.drop (i * 16)).take 16 = rowV i := by
      intro i hi
      have h1 := hel i hi
      rw [c16, List.getElem?_eq_getElem (by omega)] at h1
      have e4 : (xs[i]'(by omega)).1 = rowD i := by
        have h3 := congrArg (fun l : List (DataW Unit) => l[i]?) hx1
        simp only [List.getElem?_map, List.getElem?_eq_getElem (show i < xs.length by omega), Option.map_some] at h3
        have hcase : i = 0 ∨ i = 1 ∨ i = 2 ∨ i = 3 ∨ i = 4 ∨ i = 5 ∨ i = 6 ∨ i = 7 ∨ i = 8 ∨ i = 9 := by omega
        rcases hcase with rfl | rfl | rfl | rfl | rfl | rfl | rfl | rfl | rfl | rfl <;> exact (Option.some.inj h3).symm
      have e5 := ints_of_trod (d := (xs[i]'(by omega)).1) (p := (xs[i]'(by omega)).2) Tryd.underlying69 Tryd.underlying5 (by kernel_rfl) (by kernel_rfl) h1 _ e4
      rw [e5, List.map_map]
      rfl
    have e2 : cs1 = rowsW.toArray := by
      rw [← Array.toArray_toList (xs := cs1)]
      congr 1
      have r0 := hrow 0 (by omega)
      have r1 := hrow 1 (by omega)
      have r2 := hrow 2 (by omega)
      have r3 := hrow 3 (by omega)
      have r4 := hrow 4 (by omega)
      have r5 := hrow 5 (by omega)
      have r6 := hrow 6 (by omega)
      have r7 := hrow 7 (by omega)
      have r8 := hrow 8 (by omega)
      have r9 := hrow 9 (by omega)
      simp only [Nat.reduceMul] at r0 r1 r2 r3 r4 r5 r6 r7 r8 r9
      have hz : cs1.toList = cs1.toList.drop 0 := by simp
      rw [hz, chunk _ 0 16 rfl, chunk _ 16 32 rfl, chunk _ 32 48 rfl, chunk _ 48 64 rfl, chunk _ 64 80 rfl, chunk _ 80 96 rfl, chunk _ 96 112 rfl, chunk _ 112 128 rfl, chunk _ 128 144 rfl, chunk _ 144 160 rfl,
        r0, r1, r2, r3, r4, r5, r6, r7, r8, r9, List.drop_eq_nil_of_le (by omega)]
      simp [rowsW]
    rw [e2] at h
    exact ⟨t, fr, h⟩
theorem tab_of_laid {W : World} (h : laidMetH Tryd.prog blakeLaid W) : Tab W := by
  unfold blakeLaid at h
  rw [MakeChecks.laidMetH_plain _ _ _ (by kernel_rfl)] at h
  obtain ⟨ps, ⟨g0, t0, cs0, f0, p0, q0, hg0, ht0, hv0, hd0, ⟨g1, t1, cs1, f1, p1, q1, hg1, ht1, hv1, hd1, _, _⟩, _⟩, _, _⟩ := h
  obtain rfl := Option.some.inj (gIv.symm.trans hg0)
  obtain rfl := Option.some.inj (gRows.symm.trans hg1)
  obtain rfl := Option.some.inj (tIv.symm.trans ht0)
  obtain rfl := Option.some.inj (tRows.symm.trans ht1)
  exact tab_of_vars hv0 hd0 hv1 hd1
/-- The door's own heap meets the condition. -/
theorem door_met (os : Os) (args : Array Value) : laidMetH Tryd.prog blakeLaid ((World.doorLaid Tryd.prog 400 os).forCall (fun _ _ => 0) ⟨#[], args, []⟩).memory :=
  laidMetH_of_parts3 (fuel := 8) (laidMet_of_run' 8 (by kernel_rfl) (by kernel_rfl)) (by kernel_rfl) (by kernel_rfl)
end Go.Proofs.YtdancpcnjklifaaDoor
