/- The program's hear (stage 12; written by tools/mkstuhear2.py). -/
import Derived.Test.YtejbhjcopldekaaStuQ
import Derived.Test.YtejbhjcopldekaaFillW
namespace Go.Proofs.Ytejbhjcopldekaa
set_option linter.unusedVariables false
set_option maxRecDepth 100000
open Go.RowKit

theorem sTwo_take0 (b : List UInt8) : getV b true 0 2 = sTwo b 0 := rfl
/-- How hear ends. -/
def HearEnd (w : World) (x : Option SM) (e : Ending) (w' : World) : Prop :=
  match x with
  | none => e = span 2 ∧ Below w.heap.size w w'
  | some m => Below w.heap.size w w' ∧ ∃ ua uc, e = .returned (.agg (sMsg m ua uc)) ∧ NumsAt w' ua m.unk.length m.unk ∧ (∀ b off, ua = some ⟨b, off, none⟩ → w.heap.size ≤ b) ∧ Sane 1000 m
/-- An ID's cells. -/
def idL (l : List UInt8) : List Value := [bv (at8 l 0), bv (at8 l 1), bv (at8 l 2), bv (at8 l 3), bv (at8 l 4), bv (at8 l 5), bv (at8 l 6), bv (at8 l 7), bv (at8 l 8), bv (at8 l 9), bv (at8 l 10), bv (at8 l 11)]
theorem id_cells {w : World} {b off : Nat} {l : List UInt8} (h : Byt w (some ⟨b, off, none⟩) 12 l) : ∀ j v, (idL l)[j]? = some v → w.cell? ⟨b, off + j, none⟩ = some v := by
  rcases h.2 with h0 | ⟨b', off', e, hc⟩
  · cases h0
  cases e
  intro j v hj
  have hj12 : j < 12 := by
    have := (List.getElem?_eq_some_iff.1 hj).1
    exact this
  rw [hc j hj12]
  match j, hj12 with
  | 0, _ => exact hj
  | 1, _ => exact hj
  | 2, _ => exact hj
  | 3, _ => exact hj
  | 4, _ => exact hj
  | 5, _ => exact hj
  | 6, _ => exact hj
  | 7, _ => exact hj
  | 8, _ => exact hj
  | 9, _ => exact hj
  | 10, _ => exact hj
  | 11, _ => exact hj
theorem idL_one (l : List UInt8) : ∀ v ∈ idL l, v.oneCell' = true := bv_oneCell [at8 l 0, at8 l 1, at8 l 2, at8 l 3, at8 l 4, at8 l 5, at8 l 6, at8 l 7, at8 l 8, at8 l 9, at8 l 10, at8 l 11]
theorem newL_one (cl : Int) (l L : List Value) (hl : ∀ v ∈ l, v.oneCell' = true) (hL : L = .int .i64 cl :: (l ++ [.int .u32 0, .int .i64 0, .string ⟨#[]⟩, .int .i64 0, .string ⟨#[]⟩, .slice none 0 0])) : ∀ v ∈ L, v.oneCell' = true := by
  subst hL
  intro v hv
  rcases List.mem_cons.1 hv with rfl | hv
  · rfl
  rcases List.mem_append.1 hv with hv | hv
  · exact hl v hv
  · simp only [List.mem_cons, List.not_mem_nil, or_false] at hv
    rcases hv with rfl | rfl | rfl | rfl | rfl | rfl <;> rfl
theorem sMsg_one (m : SM) (ua : Option Addr) (uc : Nat) (L : List Value) (hL : sMsg m ua uc = L.toArray) : ∀ v ∈ L, v.oneCell' = true := by
  have e : L = [.int .i64 m.cls] ++ idL m.id ++ [.int .u32 (m.host : Int), .int .i64 m.port, .string (S m.soft), .int .i64 m.code, .string (S m.reason), .slice ua m.unk.length uc] := by
    have h := congrArg Array.toList hL
    simpa [sMsg, idL] using h.symm
  rw [e]
  intro v hv
  rcases List.mem_append.1 hv with hv | hv
  · rcases List.mem_append.1 hv with hv | hv
    · simp only [List.mem_singleton] at hv
      subst hv
      rfl
    · exact idL_one _ v hv
  · simp only [List.mem_cons, List.not_mem_nil, or_false] at hv
    rcases hv with rfl | rfl | rfl | rfl | rfl | rfl <;> rfl
theorem srow_below {B : Nat} {w W : World} (hb : Below B w W) (g : Nat) (hg : B ≤ g) (cs : Array Value) : Below B w (W.setRow g cs) :=
  ⟨hb.os, hb.tape, hb.output, by have := hb.size; simpa [World.setRow] using this, fun k hk => by rw [setRow_other W g k cs (by omega)]; exact hb.block k hk⟩
theorem sClass_in (k : Nat) (c : Int) (h : sClass k = some c) : c = 0 ∨ c = 2 ∨ c = 3 := by
  unfold sClass at h
  split at h
  · cases h; exact .inl rfl
  split at h
  · cases h; exact .inr (.inl rfl)
  split at h
  · cases h; exact .inr (.inr rfl)
  · cases h

set_option maxHeartbeats 1000000 in
theorem hear_any (a : Option Addr) (n c : Nat) (b : List UInt8) (w : World) (hB : Byt w a n b) (hnc : n ≤ c) (hcm : c ≤ maxLen) (hnil : a = none → c = 0) (hb : n ≤ 1000) :
    Calls Try.prog 34 #[.slice a n c] w fun e w' => HearEnd w (hearS b) e w' := by
  have hbl := hB.1
  obtain ⟨x, hx⟩ : ∃ x, hearS b = x := ⟨_, rfl⟩
  rw [hx]
  have HX := uhid hx
  clear hx
  have hb0 : Below w.heap.size w (w.alloc (.cells #[.int .i64 0, .int .u8 0, .int .u8 0, .int .u8 0, .int .u8 0, .int .u8 0, .int .u8 0, .int .u8 0, .int .u8 0, .int .u8 0, .int .u8 0, .int .u8 0, .int .u8 0, .int .u32 0, .int .i64 0, .string ⟨#[]⟩, .int .i64 0, .string ⟨#[]⟩, .slice none 0 0] 29)) := (Below.refl _ _).alloc (Nat.le_refl _) _
  have hres := heap_alloc_new w (.cells #[.int .i64 0, .int .u8 0, .int .u8 0, .int .u8 0, .int .u8 0, .int .u8 0, .int .u8 0, .int .u8 0, .int .u8 0, .int .u8 0, .int .u8 0, .int .u8 0, .int .u8 0, .int .u32 0, .int .i64 0, .string ⟨#[]⟩, .int .i64 0, .string ⟨#[]⟩, .slice none 0 0] 29)
  have hs1 : (w.alloc (.cells #[.int .i64 0, .int .u8 0, .int .u8 0, .int .u8 0, .int .u8 0, .int .u8 0, .int .u8 0, .int .u8 0, .int .u8 0, .int .u8 0, .int .u8 0, .int .u8 0, .int .u8 0, .int .u32 0, .int .i64 0, .string ⟨#[]⟩, .int .i64 0, .string ⟨#[]⟩, .slice none 0 0] 29)).heap.size = w.heap.size + 1 := by rw [World.size_alloc]
  by_cases h20 : n < 20
  · have hx : x = none := by rw [← HX.out]; unfold hearS; rw [if_pos (by omega)]
    subst hx
    clear HX
    by_cases h2 : n < 2
    · go_enter Try.func34, Try.ntmps34
      go_wp2_with fail
      obtain ⟨w1, hw1⟩ : ∃ w1, w.alloc (.cells #[.int .i64 0, .int .u8 0, .int .u8 0, .int .u8 0, .int .u8 0, .int .u8 0, .int .u8 0, .int .u8 0, .int .u8 0, .int .u8 0, .int .u8 0, .int .u8 0, .int .u8 0, .int .u32 0, .int .i64 0, .string ⟨#[]⟩, .int .i64 0, .string ⟨#[]⟩, .slice none 0 0] 29) = w1 := ⟨_, rfl⟩
      rw [hw1] at hb0 hres hs1
      rw [hw1]
      clear hw1
      have hb2 : Below w1.heap.size w1 (w1.alloc (.cells #[.slice a n c] 79)) := (Below.refl _ _).alloc (Nat.le_refl _) _
      have hrow2 := heap_alloc_new w1 (.cells #[.slice a n c] 79)
      obtain ⟨W2, hW2⟩ : ∃ W2, w1.alloc (.cells #[.slice a n c] 79) = W2 := ⟨_, rfl⟩
      rw [hW2] at hb2 hrow2
      rw [hW2]
      clear hW2
      have HB0 := uhid hb0
      have HRES := uhid hres
      clear hb0 hres
      rw [hs1] at hrow2
      refine (rnumber_no (w.heap.size + 1) 2 a n c W2 hrow2 h2 (by omega)).mono ?_
      rintro e w11 ⟨rfl, rfl⟩
      go_wp2_with fail
      exact ⟨rfl, rfl, (HB0.out.trans (hb2.mono HB0.out.size))⟩
    have hpl : a = none ∨ ∃ b off, a = some ⟨b, off, none⟩ := by
      rcases hB.2 with h0 | ⟨b', off', e, _⟩
      · omega
      · exact .inr ⟨b', off', e⟩
    by_cases h4 : n < 4
    · go_enter Try.func34, Try.ntmps34
      go_wp2_with fail
      obtain ⟨w1, hw1⟩ : ∃ w1, w.alloc (.cells #[.int .i64 0, .int .u8 0, .int .u8 0, .int .u8 0, .int .u8 0, .int .u8 0, .int .u8 0, .int .u8 0, .int .u8 0, .int .u8 0, .int .u8 0, .int .u8 0, .int .u8 0, .int .u32 0, .int .i64 0, .string ⟨#[]⟩, .int .i64 0, .string ⟨#[]⟩, .slice none 0 0] 29) = w1 := ⟨_, rfl⟩
      rw [hw1] at hb0 hres hs1
      rw [hw1]
      clear hw1
      have hb2 : Below w1.heap.size w1 (w1.alloc (.cells #[.slice a n c] 79)) := (Below.refl _ _).alloc (Nat.le_refl _) _
      have hrow2 := heap_alloc_new w1 (.cells #[.slice a n c] 79)
      obtain ⟨W2, hW2⟩ : ∃ W2, w1.alloc (.cells #[.slice a n c] 79) = W2 := ⟨_, rfl⟩
      rw [hW2] at hb2 hrow2
      rw [hW2]
      clear hW2
      have HB0 := uhid hb0
      have HRES := uhid hres
      clear hb0 hres
      obtain ⟨r, hr⟩ : ∃ r, w.heap.size + 1 = r := ⟨_, rfl⟩
      rw [hs1] at hrow2
      rw [hr] at hrow2 hs1
      rw [hr]
      have HR2 : Hid (Rd w1 r b W2) := uhid ⟨⟨a, c, by rw [hbl]; exact hrow2, by rw [hbl]; exact ⟨hB.later HB0.out, hpl, hnc, hcm, hnil⟩⟩, hb2, by omega⟩
      clear hrow2 hb2
      refine (rnumber_yes w1 r 2 b W2 HR2.out (by decide) (by decide) (by omega)).mono ?_
      rintro e w3 ⟨rfl, hR3, hG3⟩
      rw [sTwo_take0]
      have HR3 := uhid hR3
      clear hR3 hG3 HR2
      go_wp2_with fail
      obtain ⟨sa, sc, hst⟩ := HR3.out.stuck
      rw [List.length_drop] at hst
      refine (rnumber_no r 2 sa _ sc w3 hst (by omega) (by omega)).mono ?_
      rintro e w11 ⟨rfl, rfl⟩
      go_wp2_with fail
      exact ⟨rfl, rfl, (HB0.out.trans (HR3.out.bel.mono HB0.out.size))⟩
    by_cases h8 : n < 8
    · go_enter Try.func34, Try.ntmps34
      go_wp2_with fail
      obtain ⟨w1, hw1⟩ : ∃ w1, w.alloc (.cells #[.int .i64 0, .int .u8 0, .int .u8 0, .int .u8 0, .int .u8 0, .int .u8 0, .int .u8 0, .int .u8 0, .int .u8 0, .int .u8 0, .int .u8 0, .int .u8 0, .int .u8 0, .int .u32 0, .int .i64 0, .string ⟨#[]⟩, .int .i64 0, .string ⟨#[]⟩, .slice none 0 0] 29) = w1 := ⟨_, rfl⟩
      rw [hw1] at hb0 hres hs1
      rw [hw1]
      clear hw1
      have hb2 : Below w1.heap.size w1 (w1.alloc (.cells #[.slice a n c] 79)) := (Below.refl _ _).alloc (Nat.le_refl _) _
      have hrow2 := heap_alloc_new w1 (.cells #[.slice a n c] 79)
      obtain ⟨W2, hW2⟩ : ∃ W2, w1.alloc (.cells #[.slice a n c] 79) = W2 := ⟨_, rfl⟩
      rw [hW2] at hb2 hrow2
      rw [hW2]
      clear hW2
      have HB0 := uhid hb0
      have HRES := uhid hres
      clear hb0 hres
      obtain ⟨r, hr⟩ : ∃ r, w.heap.size + 1 = r := ⟨_, rfl⟩
      rw [hs1] at hrow2
      rw [hr] at hrow2 hs1
      rw [hr]
      have HR2 : Hid (Rd w1 r b W2) := uhid ⟨⟨a, c, by rw [hbl]; exact hrow2, by rw [hbl]; exact ⟨hB.later HB0.out, hpl, hnc, hcm, hnil⟩⟩, hb2, by omega⟩
      clear hrow2 hb2
      refine (rnumber_yes w1 r 2 b W2 HR2.out (by decide) (by decide) (by omega)).mono ?_
      rintro e w3 ⟨rfl, hR3, hG3⟩
      rw [sTwo_take0]
      have HR3 := uhid hR3
      clear hR3 hG3 HR2
      go_wp2_with fail
      refine (rnumber_yes w1 r 2 (b.drop 2) w3 HR3.out (by decide) (by decide) (by rw [List.length_drop]; omega)).mono ?_
      rintro e w4 ⟨rfl, hR4, hG4⟩
      rw [two_drop]
      rw [List.drop_drop] at hR4
      have HR4 := uhid hR4
      clear hR4 hG4 HR3
      go_wp2_with fail
      obtain ⟨sa, sc, hst⟩ := HR4.out.stuck
      rw [List.length_drop] at hst
      refine (rbytes_no r 4 sa _ sc w4 hst (by omega) (by omega)).mono ?_
      rintro e w11 ⟨rfl, rfl⟩
      go_wp2_with fail
      exact ⟨rfl, rfl, (HB0.out.trans (HR4.out.bel.mono HB0.out.size))⟩
    go_enter Try.func34, Try.ntmps34
    go_wp2_with fail
    obtain ⟨w1, hw1⟩ : ∃ w1, w.alloc (.cells #[.int .i64 0, .int .u8 0, .int .u8 0, .int .u8 0, .int .u8 0, .int .u8 0, .int .u8 0, .int .u8 0, .int .u8 0, .int .u8 0, .int .u8 0, .int .u8 0, .int .u8 0, .int .u32 0, .int .i64 0, .string ⟨#[]⟩, .int .i64 0, .string ⟨#[]⟩, .slice none 0 0] 29) = w1 := ⟨_, rfl⟩
    rw [hw1] at hb0 hres hs1
    rw [hw1]
    clear hw1
    have hb2 : Below w1.heap.size w1 (w1.alloc (.cells #[.slice a n c] 79)) := (Below.refl _ _).alloc (Nat.le_refl _) _
    have hrow2 := heap_alloc_new w1 (.cells #[.slice a n c] 79)
    obtain ⟨W2, hW2⟩ : ∃ W2, w1.alloc (.cells #[.slice a n c] 79) = W2 := ⟨_, rfl⟩
    rw [hW2] at hb2 hrow2
    rw [hW2]
    clear hW2
    have HB0 := uhid hb0
    have HRES := uhid hres
    clear hb0 hres
    obtain ⟨r, hr⟩ : ∃ r, w.heap.size + 1 = r := ⟨_, rfl⟩
    rw [hs1] at hrow2
    rw [hr] at hrow2 hs1
    rw [hr]
    have HR2 : Hid (Rd w1 r b W2) := uhid ⟨⟨a, c, by rw [hbl]; exact hrow2, by rw [hbl]; exact ⟨hB.later HB0.out, hpl, hnc, hcm, hnil⟩⟩, hb2, by omega⟩
    clear hrow2 hb2
    refine (rnumber_yes w1 r 2 b W2 HR2.out (by decide) (by decide) (by omega)).mono ?_
    rintro e w3 ⟨rfl, hR3, hG3⟩
    rw [sTwo_take0]
    have HR3 := uhid hR3
    clear hR3 hG3 HR2
    go_wp2_with fail
    refine (rnumber_yes w1 r 2 (b.drop 2) w3 HR3.out (by decide) (by decide) (by rw [List.length_drop]; omega)).mono ?_
    rintro e w4 ⟨rfl, hR4, hG4⟩
    rw [two_drop]
    rw [List.drop_drop] at hR4
    have HR4 := uhid hR4
    clear hR4 hG4 HR3
    go_wp2_with fail
    refine (rbytes_yes w1 r 4 (b.drop (2 + 2)) w4 HR4.out (by rw [List.length_drop]; omega)).mono ?_
    rintro e w5 ⟨a5, c5, rfl, hP5, hR5, hG5⟩
    rw [List.drop_drop] at hR5
    have HR5 := uhid hR5
    clear hP5 hR5 hG5 HR4
    go_wp2_with fail
    refine (class_any (sTwo b 0) w5).mono ?_
    rintro e w6 ⟨hcl, hb6⟩
    have HR6 := uhid (HR5.out.below hb6)
    clear hb6 HR5
    rcases hcl with ⟨cl, hcl, rfl⟩ | ⟨hcl, rfl⟩
    · clear hcl
      go_wp2_with fail
      obtain ⟨sa, sc, hst⟩ := HR6.out.stuck
      rw [List.length_drop] at hst
      refine (rbytes_no r 12 sa _ sc w6 hst (by omega) (by omega)).mono ?_
      rintro e w11 ⟨rfl, rfl⟩
      go_wp2_with fail
      exact ⟨rfl, rfl, (HB0.out.trans (HR6.out.bel.mono HB0.out.size))⟩
    · clear hcl
      go_wp2_with fail
      exact ⟨rfl, rfl, (HB0.out.trans (HR6.out.bel.mono HB0.out.size))⟩
  have hpl : a = none ∨ ∃ b off, a = some ⟨b, off, none⟩ := by
    rcases hB.2 with h0 | ⟨b', off', e, _⟩
    · omega
    · exact .inr ⟨b', off', e⟩
  go_enter Try.func34, Try.ntmps34
  go_wp2_with fail
  obtain ⟨w1, hw1⟩ : ∃ w1, w.alloc (.cells #[.int .i64 0, .int .u8 0, .int .u8 0, .int .u8 0, .int .u8 0, .int .u8 0, .int .u8 0, .int .u8 0, .int .u8 0, .int .u8 0, .int .u8 0, .int .u8 0, .int .u8 0, .int .u32 0, .int .i64 0, .string ⟨#[]⟩, .int .i64 0, .string ⟨#[]⟩, .slice none 0 0] 29) = w1 := ⟨_, rfl⟩
  rw [hw1] at hb0 hres hs1
  rw [hw1]
  clear hw1
  have hb2 : Below w1.heap.size w1 (w1.alloc (.cells #[.slice a n c] 79)) := (Below.refl _ _).alloc (Nat.le_refl _) _
  have hrow2 := heap_alloc_new w1 (.cells #[.slice a n c] 79)
  obtain ⟨W2, hW2⟩ : ∃ W2, w1.alloc (.cells #[.slice a n c] 79) = W2 := ⟨_, rfl⟩
  rw [hW2] at hb2 hrow2
  rw [hW2]
  clear hW2
  have HB0 := uhid hb0
  have HRES := uhid hres
  clear hb0 hres
  obtain ⟨r, hr⟩ : ∃ r, w.heap.size + 1 = r := ⟨_, rfl⟩
  rw [hs1] at hrow2
  rw [hr] at hrow2 hs1
  rw [hr]
  have HR2 : Hid (Rd w1 r b W2) := uhid ⟨⟨a, c, by rw [hbl]; exact hrow2, by rw [hbl]; exact ⟨hB.later HB0.out, hpl, hnc, hcm, hnil⟩⟩, hb2, by omega⟩
  clear hrow2 hb2
  refine (rnumber_yes w1 r 2 b W2 HR2.out (by decide) (by decide) (by omega)).mono ?_
  rintro e w3 ⟨rfl, hR3, hG3⟩
  rw [sTwo_take0]
  have HR3 := uhid hR3
  clear hR3 hG3 HR2
  go_wp2_with fail
  refine (rnumber_yes w1 r 2 (b.drop 2) w3 HR3.out (by decide) (by decide) (by rw [List.length_drop]; omega)).mono ?_
  rintro e w4 ⟨rfl, hR4, hG4⟩
  rw [two_drop]
  rw [List.drop_drop] at hR4
  have HR4 := uhid hR4
  clear hR4 hG4 HR3
  go_wp2_with fail
  refine (rbytes_yes w1 r 4 (b.drop (2 + 2)) w4 HR4.out (by rw [List.length_drop]; omega)).mono ?_
  rintro e w5 ⟨a5, c5, rfl, hP5, hR5, hG5⟩
  rw [List.drop_drop] at hR5
  have HR5 := uhid hR5
  clear hP5 hR5 hG5 HR4
  go_wp2_with fail
  refine (class_any (sTwo b 0) w5).mono ?_
  rintro e w6 ⟨hcl, hb6⟩
  have HR6 := uhid (HR5.out.below hb6)
  clear hb6 HR5
  rcases hcl with ⟨cl, hcl, rfl⟩ | ⟨hcl, rfl⟩
  · go_wp2_with fail
    refine (rbytes_yes w1 r 12 (b.drop (2 + 2 + 4)) w6 HR6.out (by rw [List.length_drop]; omega)).mono ?_
    rintro e w7 ⟨a7, c7, rfl, hP7, hR7, hG7⟩
    rw [List.drop_drop] at hR7
    have HR7 := uhid hR7
    have hBt := hP7.byt.later hR7.bel
    obtain ⟨ib, io, rfl⟩ : ∃ ib io, a7 = some ⟨ib, io, none⟩ := by
      rcases hP7.byt.2 with h0 | ⟨b', off', e, _⟩
      · cases h0
      · exact ⟨b', off', e⟩
    have hnc7 := hP7.nc
    clear hP7 hR7 hG7 HR6
    obtain ⟨ID, hID⟩ : ∃ ID, (b.drop (2 + 2 + 4)).take 12 = ID := ⟨_, rfl⟩
    rw [hID] at hBt
    have HID := uhid hID
    have HCe := uhid (id_cells hBt)
    have hat : (Instr.arrayAt 23 (.slice (some ⟨ib, io, none⟩) 12 c7)).run Try.prog w7 = .ok (.pointer (some ⟨ib, io, none⟩)) w7 := by simp [Instr.arrayAt, run_underlying Try.underlying23]
    clear hID hBt
    have hlet : ∃ v0 v1 v2 v3 v4 v5 v6 v7 v8 v9 v10 v11, idL ID = [v0, v1, v2, v3, v4, v5, v6, v7, v8, v9, v10, v11] := ⟨_, _, _, _, _, _, _, _, _, _, _, _, rfl⟩
    obtain ⟨v0, v1, v2, v3, v4, v5, v6, v7, v8, v9, v10, v11, hlet⟩ := hlet
    have HLet := uhid hlet
    rw [hlet] at HCe
    have hone := newL_one cl _ [.int .i64 cl, v0, v1, v2, v3, v4, v5, v6, v7, v8, v9, v10, v11, .int .u32 0, .int .i64 0, .string ⟨#[]⟩, .int .i64 0, .string ⟨#[]⟩, .slice none 0 0] (by have := idL_one ID; rw [hlet] at this; exact this) rfl
    clear hlet
    have hrow7 := heap_alloc_new w7 (.cells #[.int .i64 0, .int .u8 0, .int .u8 0, .int .u8 0, .int .u8 0, .int .u8 0, .int .u8 0, .int .u8 0, .int .u8 0, .int .u8 0, .int .u8 0, .int .u8 0, .int .u8 0, .int .u32 0, .int .i64 0, .string ⟨#[]⟩, .int .i64 0, .string ⟨#[]⟩, .slice none 0 0] 29)
    have hrow8 := setRow_heap (w7.alloc (.cells #[.int .i64 0, .int .u8 0, .int .u8 0, .int .u8 0, .int .u8 0, .int .u8 0, .int .u8 0, .int .u8 0, .int .u8 0, .int .u8 0, .int .u8 0, .int .u8 0, .int .u8 0, .int .u32 0, .int .i64 0, .string ⟨#[]⟩, .int .i64 0, .string ⟨#[]⟩, .slice none 0 0] 29)) w7.heap.size _ #[.int .i64 cl, v0, v1, v2, v3, v4, v5, v6, v7, v8, v9, v10, v11, .int .u32 0, .int .i64 0, .string ⟨#[]⟩, .int .i64 0, .string ⟨#[]⟩, .slice none 0 0] _ _ hrow7
    have hb8 : Below w7.heap.size w7 ((w7.alloc (.cells #[.int .i64 0, .int .u8 0, .int .u8 0, .int .u8 0, .int .u8 0, .int .u8 0, .int .u8 0, .int .u8 0, .int .u8 0, .int .u8 0, .int .u8 0, .int .u8 0, .int .u8 0, .int .u32 0, .int .i64 0, .string ⟨#[]⟩, .int .i64 0, .string ⟨#[]⟩, .slice none 0 0] 29)).setRow w7.heap.size #[.int .i64 cl, v0, v1, v2, v3, v4, v5, v6, v7, v8, v9, v10, v11, .int .u32 0, .int .i64 0, .string ⟨#[]⟩, .int .i64 0, .string ⟨#[]⟩, .slice none 0 0]) := srow_below ((Below.refl _ _).alloc (Nat.le_refl _) _) _ (Nat.le_refl _) _
    have hall : (#[.int .i64 cl, v0, v1, v2, v3, v4, v5, v6, v7, v8, v9, v10, v11, .int .u32 0, .int .i64 0, .string ⟨#[]⟩, .int .i64 0, .string ⟨#[]⟩, .slice none 0 0] : Array Value).all (·.oneCell') = true := by
      rw [Array.all_eq_true_iff_forall_mem]
      intro u hu
      simp only [List.mem_toArray] at hu
      exact hone u hu
    have hin29 : (Try.prog.info? 29).map (·.size) = some (#[.int .i64 cl, v0, v1, v2, v3, v4, v5, v6, v7, v8, v9, v10, v11, .int .u32 0, .int .i64 0, .string ⟨#[]⟩, .int .i64 0, .string ⟨#[]⟩, .slice none 0 0] : Array Value).size := by kernel_rfl
    obtain ⟨W8, hW8⟩ : ∃ W8, (w7.alloc (.cells #[.int .i64 0, .int .u8 0, .int .u8 0, .int .u8 0, .int .u8 0, .int .u8 0, .int .u8 0, .int .u8 0, .int .u8 0, .int .u8 0, .int .u8 0, .int .u8 0, .int .u8 0, .int .u32 0, .int .i64 0, .string ⟨#[]⟩, .int .i64 0, .string ⟨#[]⟩, .slice none 0 0] 29)).setRow w7.heap.size #[.int .i64 cl, v0, v1, v2, v3, v4, v5, v6, v7, v8, v9, v10, v11, .int .u32 0, .int .i64 0, .string ⟨#[]⟩, .int .i64 0, .string ⟨#[]⟩, .slice none 0 0] = W8 := ⟨_, rfl⟩
    rw [hW8] at hrow8 hb8
    have HW8 := uhid hW8
    have HALL := uhid hall
    have HIN := uhid hin29
    have HROW7 := uhid hrow7
    obtain ⟨g, hg⟩ : ∃ g, w7.heap.size = g := ⟨_, rfl⟩
    have hrow9 : W8.heap[g]? = some (.cells (sMsg (sZero cl ID) none 0) 29 (0, 0)) := by
      rw [← hg, hrow8]
      have h := HLet.out
      simp only [idL, List.cons.injEq, and_true] at h
      obtain ⟨rfl, rfl, rfl, rfl, rfl, rfl, rfl, rfl, rfl, rfl, rfl, rfl⟩ := h
      rfl
    have HR8 := uhid (HR7.out.below hb8)
    have hw17 := HR7.out.bel.size
    have hrg : r < g := by rw [← hg]; exact HR7.out.lt
    have HL8 : Hid (Lm w1 g (sZero cl ID) none 0 W8) := uhid ⟨hrow9, Seg.nil _ _, (fun j hj => by cases hj), HR8.out.bel, by omega⟩
    obtain ⟨sa, sc, hst8⟩ := HR8.out.stuck
    have hl8 : (b.drop (2 + 2 + 4 + 12)).length = n - 20 := by rw [List.length_drop]; omega
    rw [hl8] at hst8
    have q3 : W8.cell? ⟨r, 0, none⟩ = some (.slice sa (n - 20) sc) := by rw [cell_of_row W8 r 0 _ _ (0, 0) hst8]; rfl
    obtain ⟨lr, hlr⟩ : ∃ lr, n - 20 = lr := ⟨_, rfl⟩
    rw [hg] at HROW7 HW8
    rw [hlr] at q3
    have hS : Hid (Sane 20 (sZero cl ID)) := uhid ⟨sClass_in _ _ hcl, by simp [sZero], by simp [sZero], by simp [sZero], by simp [sZero]⟩
    have HIDc : Hid (cutB b 8 12 = ID) := uhid HID.out
    have hsx : Hid (x = if sTwo b 2 + 20 = b.length then hParse b b.length 20 (sZero cl ID) else none) := uhid (by rw [← HX.out, hearS, if_neg (by omega), hcl]; show (if sTwo b 2 + 20 = b.length then hParse b b.length 20 (sZero cl (cutB b 8 12)) else none) = _; rw [HIDc.out])
    obtain ⟨z2, hz2⟩ : ∃ z2, sTwo b 2 = z2 := ⟨_, rfl⟩
    rw [hz2] at hsx ⊢
    clear hz2 hrow7 hrow8 hb8 hall hin29 hW8 hone hrow9 hst8 hl8 hw17 HR7 HX hcl HID HIDc HLet
    go_wp2_with (first | refine wpList_load_part rfl 23 (.tmp 15) rfl ib io rfl [v0, v1, v2, v3, v4, v5, v6, v7, v8, v9, v10, v11] _ HCe.out Try.underlying23 rfl rfl ?_ | (refine wpList_store_row rfl 29 (.tmp 6) (.tmp 17) rfl g #[.int .i64 cl, v0, v1, v2, v3, v4, v5, v6, v7, v8, v9, v10, v11, .int .u32 0, .int .i64 0, .string ⟨#[]⟩, .int .i64 0, .string ⟨#[]⟩, .slice none 0 0] rfl rfl 29 _ HROW7.out HIN.out rfl HALL.out ?_; rw [HW8.out]))
    clear HCe hat HW8 HALL HIN HROW7
    have hnb : b.length = n := hbl
    by_cases hz : z2 = lr
    · subst hz
      have hz' : (((z2 : Int)) == (z2 : Int)) = true := beq_self_eq_true _
      have hpx : Hid (x = hParse b n 20 (sZero cl ID)) := uhid (by rw [hsx.out, hnb, if_pos (by omega)])
      rw [hz']
      clear hz' hsx q3
      refine (smust_ok 2 W8).mono ?_
      rintro e w9 ⟨⟨vv, rfl⟩, rfl⟩
      go_wp2_with fail
      go_loopw [24] (fun _ wr => ∃ (p f : Nat) (m : SM) (ua : Option Addr) (uc : Nat), p ≤ n ∧ n < f + p ∧ Hid (x = hParse b f p m) ∧ Hid (Sane p m) ∧ Hid (Rd w1 r (b.drop p) wr) ∧ Hid (Lm w1 g m ua uc wr)) (fun _ wr => leftIn wr r)
      case atStart => exact ⟨20, n, sZero cl ID, none, 0, by omega, by omega, hpx, hS, HR8, HL8⟩
      case round =>
        obtain ⟨p, f, m, ua, uc, hp, hf, HP, HS, HR, HL⟩ := hrel
        obtain ⟨sa9, sc9, hst9⟩ := HR.out.stuck
        have hdl : (b.drop p).length = n - p := by rw [List.length_drop]; omega
        rw [hdl] at hst9
        have q3 : wr.cell? ⟨r, 0, none⟩ = some (.slice sa9 (n - p) sc9) := by rw [cell_of_row wr r 0 _ _ (0, 0) hst9]; rfl
        have hll : leftIn wr r = n - p := by rw [HR.out.left]; exact hdl
        obtain ⟨lf, hlf⟩ : ∃ lf, n - p = lf := ⟨_, rfl⟩
        rw [hlf] at q3 hll
        have HLL := uhid hll
        clear hst9 hdl hll
        obtain ⟨f', rfl⟩ : ∃ f', f = f' + 1 := ⟨f - 1, by omega⟩
        by_cases h0 : lf = 0
        · have i1 : ¬ (0 : Int) < (lf : Int) := by omega
          have hx9 : x = some m := by rw [HP.out, hParse, if_pos (by omega)]
          subst hx9
          have hresW : wr.heap[w.heap.size]? = some (.cells #[.int .i64 0, .int .u8 0, .int .u8 0, .int .u8 0, .int .u8 0, .int .u8 0, .int .u8 0, .int .u8 0, .int .u8 0, .int .u8 0, .int .u8 0, .int .u8 0, .int .u8 0, .int .u32 0, .int .i64 0, .string ⟨#[]⟩, .int .i64 0, .string ⟨#[]⟩, .slice none 0 0] 29 (0, 0)) := (HR.out.bel.block _ (by omega)).trans HRES.out
          obtain ⟨MM, hMM⟩ : ∃ MM : List Value, sMsg m ua uc = MM.toArray := ⟨(sMsg m ua uc).toList, by simp⟩
          have hMl : MM.length = 19 := by
            have := congrArg Array.size hMM
            simpa [sMsg] using this.symm
          have hrowm := HL.out.row
          rw [hMM] at hrowm
          have HROWM := uhid hrowm
          have HRW := uhid hresW
          have hall : MM.toArray.all (·.oneCell') = true := by
            rw [Array.all_eq_true_iff_forall_mem]
            intro u hu
            simp only [List.mem_toArray] at hu
            exact sMsg_one m ua uc MM hMM u hu
          have hin : (Try.prog.info? 29).map (·.size) = some MM.toArray.size := by
            have e1 : (Try.prog.info? 29).map (·.size) = some 19 := by kernel_rfl
            rw [e1]
            simp [hMl]
          have HALL := uhid hall
          have HIN := uhid hin
          have HMs : Hid (MM.toArray.size = 19) := uhid (by simp [hMl])
          have hrowE := setRow_heap wr w.heap.size _ MM.toArray _ _ hresW
          have hbE : Below w.heap.size w (wr.setRow w.heap.size MM.toArray) := srow_below (HB0.out.trans (HR.out.bel.mono HB0.out.size)) _ (Nat.le_refl _) _
          have hgw := HL.out.gw
          have hLE : NumsAt (wr.setRow w.heap.size MM.toArray) ua m.unk.length m.unk := by
            have hL2 : Lm w g m ua uc (wr.setRow w.heap.size MM.toArray) := ⟨by rw [setRow_other wr w.heap.size g _ (by omega)]; exact HL.out.row, HL.out.seg.kept (fun j hj => setRow_other wr w.heap.size j _ (by have := HL.out.hi j hj; omega)), HL.out.hi, hbE, by omega⟩
            exact hL2.ints
          have HUB : Hid (∀ b off, ua = some ⟨b, off, none⟩ → w.heap.size ≤ b) := uhid (fun b' off' e => by have h1 := HL.out.hi b' (by rw [e]; rfl); omega)
          have hSE : Sane 1000 m := ⟨HS.out.cls, HS.out.soft, HS.out.reason, HS.out.nums, by have := HS.out.unk; omega⟩
          obtain ⟨E, hE⟩ : ∃ E, wr.setRow w.heap.size MM.toArray = E := ⟨_, rfl⟩
          rw [hE] at hrowE hbE hLE
          have HE := uhid hE
          have HrowE := uhid hrowE
          have HbE := uhid hbE
          have HLE := uhid hLE
          have HSE := uhid hSE
          have HMM := uhid hMM
          clear hMM hMl hrowm hresW hall hin hrowE hbE hLE hSE hE HP HR HL HS HRES HR8 HL8 hS hpx hlf
          go_wp2_with (first
            | refine wpList_load_row rfl 29 _ rfl g rfl 29 _ (0, 0) _ HROWM.out Try.underlying29 rfl HIN.out ?_
            | (refine wpList_store_row rfl 29 (.tmp 2) (.tmp 29) rfl w.heap.size MM.toArray rfl rfl 29 _ HRW.out HIN.out HMs.out.symm HALL.out ?_; rw [HE.out]))
          refine bodyPost_ret (results_cell_row rfl _ _ w.heap.size 29 _ (0, 0) _ rfl HrowE.out Try.underlying29 rfl HIN.out) rfl ?_
          exact ⟨HbE.out, ua, uc, by rw [HMM.out], HLE.out, HUB.out, HSE.out⟩
        · have i1 : (0 : Int) < (lf : Int) := by omega
          have hnx : x = (nextS b p m).bind fun y => hParse b f' (p + 4 + (sTwo b (p + 2) + 3) / 4 * 4) y := by rw [HP.out, hParse_next b f' p m (by omega)]
          have HNX := uhid hnx
          have hub : m.unk.length ≤ 2000 := by have := HS.out.unk; omega
          clear hnx HP
          go_wp2_with fail
          refine (attr_any w1 r g p b m ua uc wr HR.out HL.out hrg (by omega) hub).mono ?_
          intro e w10 hE
          obtain ⟨y, hy⟩ : ∃ y, nextS b p m = y := ⟨_, rfl⟩
          rw [hy] at hE HNX
          cases y with
          | none =>
            obtain ⟨rfl, hbel⟩ := hE
            have hx9 : x = none := HNX.out
            subst hx9
            have HBE := uhid (HB0.out.trans (hbel.mono HB0.out.size))
            clear hbel hy HNX
            go_wp2_with fail
            exact ⟨rfl, rfl, HBE.out⟩
          | some m' =>
            obtain ⟨⟨vv9, rfl⟩, ua', uc', hR', hL'⟩ := hE
            obtain ⟨hp', hS'⟩ := next_sane b p m m' (by omega) HS.out hy
            obtain ⟨p', hpp⟩ : ∃ p', p + 4 + (sTwo b (p + 2) + 3) / 4 * 4 = p' := ⟨_, rfl⟩
            rw [hpp] at hR' hp' hS' HNX
            have hp4 : p + 4 ≤ p' := by omega
            have hx9 : x = hParse b f' p' m' := HNX.out
            have HX9 := uhid hx9
            have HR' := uhid hR'
            have HL' := uhid hL'
            have HS' := uhid hS'
            have hdec : leftIn w10 r < leftIn wr r := by rw [hR'.left, HLL.out, List.length_drop]; omega
            have HDEC := uhid hdec
            clear hx9 hR' hL' hS' hdec hpp hy HNX HR HL HS
            go_wp2_with fail
            exact ⟨⟨p', f', m', ua', uc', by omega, by omega, HX9, HS', HR', HL'⟩, HDEC.out⟩
    · have hz' : (((z2 : Int)) == (lr : Int)) = false := beq_eq_false_iff_ne.2 (by omega)
      have hx9 : x = none := by rw [hsx.out, if_neg (by omega)]
      subst hx9
      rw [hz']
      clear hz' hsx q3
      refine (smust_no 2 W8).mono ?_
      rintro e w9 ⟨rfl, rfl⟩
      go_wp2_with fail
      exact ⟨rfl, rfl, HB0.out.trans (HR8.out.bel.mono HB0.out.size)⟩
  · have hx : x = none := by rw [← HX.out]; unfold hearS; rw [if_neg (by omega), hcl]; rfl
    subst hx
    clear HX hcl
    go_wp2_with fail
    exact ⟨rfl, rfl, (HB0.out.trans (HR6.out.bel.mono HB0.out.size))⟩
end Go.Proofs.Ytejbhjcopldekaa
