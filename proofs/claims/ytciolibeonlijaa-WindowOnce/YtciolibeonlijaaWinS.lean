/- The walk over the law's own 'shown', and how numbers that came in are read (stage 11). -/
import Derived.Test.YtciolibeonlijaaWinA
namespace Go.Proofs.Ytciolibeonlijaa
set_option linter.unusedVariables false
set_option maxRecDepth 100000
open Go.RowKit

theorem whid {p : Prop} (h : p) : Hid p := h
theorem wfresh_at {g : Nat} {L : List Nat} {n : Nat} {w : World} (h : WiIs w g L) (z : Int) (hz : z = (n : Int)) (hn : n < 18446744073709551616) :
    Calls Try.prog 13 #[.pointer (some ⟨g, 0, none⟩), .int .u64 z] w fun e w' => e = .returned (.bool (wFresh L n)) ∧ w' = w := by
  subst hz; exact wfresh_any g L n w h hn
theorem wtake_at {g : Nat} {L : List Nat} {n : Nat} {w : World} (h : WiIs w g L) (z : Int) (hz : z = (n : Int)) (hn : n < 18446744073709551616) :
    Calls Try.prog 9 #[.pointer (some ⟨g, 0, none⟩), .int .u64 z] w fun e w' => e = .returned (.bool (wFresh L n)) ∧ WiIs w' g (wTake L n) ∧ Only g w w' := by
  subst hz; exact wtake_any g L n w h hn
theorem WnIs.new (w : World) : WnIs (w.alloc (.cells #[.int .u64 0, .int .u64 0] 27)) w.heap.size 0 0 := ⟨heap_alloc_new w _, by decide, by decide⟩
theorem WiIs.new (w : World) : WiIs (w.alloc (.cells #[.int .u64 0, .int .u64 0] 27)) w.heap.size [] := ⟨0, 0, WnIs.new w, WBits.none⟩
theorem below_only {B g : Nat} {w W W' : World} (h : Below B w W) (k : Only g W W') (hB : B ≤ g) (hg : g < W.heap.size) : Below B w W' :=
  h.grown k.1 (by omega) (fun j e => by cases e; exact hB)
theorem WiIs.only {g g' : Nat} {L : List Nat} {W W' : World} (h : WiIs W g L) (k : Only g' W W') (hne : g ≠ g') : WiIs W' g L := h.kept (k.1.block g h.lt (fun e => hne (by cases e; rfl)))
/-- Numbers of 64 bits that came in. -/
theorem row_nums {w : World} {a : Option Addr} {len cap : Nat} {zs : List Int} (h : IsRow .u64 w a len cap zs) :
    ∃ f : Nat → Nat, (∀ k, f k < 18446744073709551616) ∧ (0 < len → ∃ b off, a = some ⟨b, off, none⟩ ∧ b < w.heap.size ∧ ∀ k, k < len → w.cell? ⟨b, off + k, none⟩ = some (.int .u64 (f k : Int))) := by
  rcases h with ⟨rfl, rfl, rfl, rfl⟩ | ⟨x, rfl, hlc, hcm, hz, hcell, hwf⟩
  · exact ⟨fun _ => 0, fun _ => by show 0 < 18446744073709551616; decide, fun h => by omega⟩
  · refine ⟨fun k => (zs.getD k 0).toNat % 18446744073709551616, fun k => Nat.mod_lt _ (by decide), fun h0 => ?_⟩
    obtain ⟨b, off, spot⟩ := x
    have hc0 := hcell 0 (by omega)
    have hspot : spot = none := by simpa [Addr.add] using World.cell?_spot hc0
    subst hspot
    have hcc : ∀ k, k < len → w.cell? ⟨b, off + k, none⟩ = some (.int .u64 (((zs.getD k 0).toNat % 18446744073709551616 : Nat) : Int)) := fun k hk => by
      have hc := hcell k (by omega)
      rw [addr_add] at hc
      rw [hc]
      have hm : zs.getD k 0 ∈ zs := by
        rw [List.getD_eq_getElem?_getD, List.getElem?_eq_getElem (by omega)]
        exact List.getElem_mem _
      have hb : 0 ≤ zs.getD k 0 ∧ zs.getD k 0 ≤ 18446744073709551615 := by simpa [Lit.wf, IntKind.min, IntKind.max, IntKind.signed, IntKind.bits] using hwf _ hm
      congr 2
      omega
    exact ⟨b, off, rfl, World.block_lt_of_cell? w _ (hcc 0 h0), hcc⟩

/-- Bytes that came in, as numbers. -/
theorem row_byts {w : World} {a : Option Addr} {len cap : Nat} {zs : List Int} (h : IsRow .u8 w a len cap zs) :
    ∃ f : Nat → Nat, (∀ k, f k < 256) ∧ (0 < len → ∃ b off, a = some ⟨b, off, none⟩ ∧ b < w.heap.size ∧ ∀ k, k < len → w.cell? ⟨b, off + k, none⟩ = some (.int .u8 (f k : Int))) := by
  rcases h with ⟨rfl, rfl, rfl, rfl⟩ | ⟨x, rfl, hlc, hcm, hz, hcell, hwf⟩
  · exact ⟨fun _ => 0, fun _ => by show 0 < 256; decide, fun h => by omega⟩
  · refine ⟨fun k => (zs.getD k 0).toNat % 256, fun k => Nat.mod_lt _ (by decide), fun h0 => ?_⟩
    obtain ⟨b, off, spot⟩ := x
    have hc0 := hcell 0 (by omega)
    have hspot : spot = none := by simpa [Addr.add] using World.cell?_spot hc0
    subst hspot
    have hcc : ∀ k, k < len → w.cell? ⟨b, off + k, none⟩ = some (.int .u8 (((zs.getD k 0).toNat % 256 : Nat) : Int)) := fun k hk => by
      have hc := hcell k (by omega)
      rw [addr_add] at hc
      rw [hc]
      have hm : zs.getD k 0 ∈ zs := by
        rw [List.getD_eq_getElem?_getD, List.getElem?_eq_getElem (by omega)]
        exact List.getElem_mem _
      have hb : 0 ≤ zs.getD k 0 ∧ zs.getD k 0 ≤ 255 := by simpa [Lit.wf, IntKind.min, IntKind.max, IntKind.signed, IntKind.bits] using hwf _ hm
      congr 2
      omega
    exact ⟨b, off, rfl, World.block_lt_of_cell? w _ (hcc 0 h0), hcc⟩

theorem and60 (n : Nat) (h : n < 18446744073709551616) : bits .and .u64 (n : Int) 1152921504606846975 = ((n % 1152921504606846976 : Nat) : Int) := by
  have e : (BitVec.ofInt 64 (n : Int) &&& BitVec.ofInt 64 1152921504606846975).toNat = n % 1152921504606846976 := by
    rw [BitVec.toNat_and, BitVec.toNat_ofInt]
    have h7 : (BitVec.ofInt 64 1152921504606846975).toNat = 2 ^ 60 - 1 := by decide
    rw [h7, Nat.and_two_pow_sub_one_eq_mod]
    omega
  show IntKind.u64.wrap ((BitVec.ofInt 64 (n : Int) &&& BitVec.ofInt 64 1152921504606846975).toNat : Int) = _
  rw [e, IntKind.wrap_u64]
  omega
theorem and63F : ∀ n : Fin 256, bits .and .u8 ((n.val : Nat) : Int) 63 = ((n.val % 64 : Nat) : Int) := by decide +kernel
theorem and63 (n : Nat) (h : n < 256) : bits .and .u8 (n : Int) 63 = ((n % 64 : Nat) : Int) := and63F ⟨n, h⟩
set_option maxHeartbeats 2000000 in
theorem winShown_any (w : World) : Calls Try.prog 8 #[] w fun e w' => e = .returned (.bool true) ∧ Below w.heap.size w w' := by
  have hI := WiIs.new w
  have hB : Below w.heap.size w (w.alloc (.cells #[.int .u64 0, .int .u64 0] 27)) := (Below.refl _ _).alloc (Nat.le_refl _) _
  go_enter Try.func8, Try.ntmps8
  go_wp2_with fail
  generalize w.alloc _ = W at hI hB ⊢
  refine (wtake_at hI 5 rfl (by decide)).mono ?_
  rintro e w1 ⟨rfl, h1, o1⟩
  rw [show wFresh [] 5 = true by decide]
  rw [show wTake [] 5 = [5] by decide] at h1
  have b1 := below_only hB o1 (Nat.le_refl _) hI.lt
  clear o1 hI hB
  go_wp2_with fail
  refine (wtake_at h1 5 rfl (by decide)).mono ?_
  rintro e w2 ⟨rfl, h2, o2⟩
  rw [show wFresh [5] 5 = false by decide]
  rw [show wTake [5] 5 = [5] by decide] at h2
  have b2 := below_only b1 o2 (Nat.le_refl _) h1.lt
  clear o2 h1 b1
  go_wp2_with fail
  refine (wtake_at h2 100 rfl (by decide)).mono ?_
  rintro e w3 ⟨rfl, h3, o3⟩
  rw [show wFresh [5] 100 = true by decide]
  rw [show wTake [5] 100 = [5, 100] by decide] at h3
  have b3 := below_only b2 o3 (Nat.le_refl _) h2.lt
  clear o3 h2 b2
  go_wp2_with fail
  refine (wtake_at h3 36 rfl (by decide)).mono ?_
  rintro e w4 ⟨rfl, h4, o4⟩
  rw [show wFresh [5, 100] 36 = false by decide]
  rw [show wTake [5, 100] 36 = [5, 100] by decide] at h4
  have b4 := below_only b3 o4 (Nat.le_refl _) h3.lt
  clear o4 h3 b3
  go_wp2_with fail
  refine (wtake_at h4 37 rfl (by decide)).mono ?_
  rintro e w5 ⟨rfl, h5, o5⟩
  rw [show wFresh [5, 100] 37 = true by decide]
  rw [show wTake [5, 100] 37 = [5, 100, 37] by decide] at h5
  have b5 := below_only b4 o5 (Nat.le_refl _) h4.lt
  clear o5 h4 b4
  go_wp2_with fail
  refine (wtop_any _ _ _ h5).mono ?_
  rintro e w6 ⟨rfl, b6⟩
  rw [show wTop [5, 100, 37] = 100 by decide, show decide ([5, 100, 37] ≠ ([] : List Nat)) = true by decide]
  have h6 := h5.kept (b6.block _ h5.lt)
  have b7 := b5.trans (b6.mono b5.size)
  clear h5 b5 b6
  go_wp2_with fail
  refine (wfresh_at h6 18446744073709551615 rfl (by decide)).mono ?_
  rintro e w8 ⟨rfl, rfl⟩
  rw [show wFresh [5, 100, 37] 18446744073709551615 = false by decide]
  go_wp2_with fail
  go_ret
  exact ⟨rfl, b7⟩
end Go.Proofs.Ytciolibeonlijaa
