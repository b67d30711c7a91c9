/- The walk over the document's Sum (poly). -/
import Derived.Test.YtcnihgjibiidpaaRefPg
namespace Go.Proofs.Ytcnihgjibiidpaa
set_option linter.unusedVariables false
open Go.RowKit

/-- The key's first half, with the bits that do not count cleared up to a place. -/
def clM (p q : Nat) (key : List UInt8) : List UInt8 :=
  (List.range 16).map fun i => if i % 4 = 3 ∧ i < p then UInt8.ofNat ((at8 key i).toNat % 16) else if (i % 4 = 0 ∧ i ≠ 0) ∧ i < q then UInt8.ofNat ((at8 key i).toNat / 4 * 4) else at8 key i
theorem clM_length (p q : Nat) (key : List UInt8) : (clM p q key).length = 16 := by simp [clM]
theorem clM_none (key : List UInt8) (h : key.length = 32) : clM 3 0 key = key.take 16 := by
  apply List.ext_getElem
  · simp [clM, h]
  · intro i h1 h2
    have hi : i < 16 := by simpa [clM] using h1
    simp only [clM, List.getElem_map, List.getElem_range, List.getElem_take]
    rw [if_neg (by omega), if_neg (by omega), at8_get _ _ (by omega)]
theorem clM_all (key : List UInt8) : clM 19 16 key = clampB key := by
  apply List.ext_getElem
  · simp [clM, clampB]
  · intro i h1 h2
    have hi : i < 16 := by simpa [clM] using h1
    simp only [clM, clampB, clamp1, List.getElem_map, List.getElem_range]
    by_cases h3 : i % 4 = 3
    · rw [if_pos ⟨h3, by omega⟩, if_pos h3]
    · rw [if_neg (by omega), if_neg h3]
      by_cases h4 : i % 4 = 0 ∧ i ≠ 0
      · rw [if_pos ⟨h4, by omega⟩, if_pos h4]
      · rw [if_neg (fun h => h4 h.1), if_neg h4]
theorem clM_at (p q : Nat) (key : List UInt8) (i : Nat) (h : i < 16) : at8 (clM p q key) i = if i % 4 = 3 ∧ i < p then UInt8.ofNat ((at8 key i).toNat % 16) else if (i % 4 = 0 ∧ i ≠ 0) ∧ i < q then UInt8.ofNat ((at8 key i).toNat / 4 * 4) else at8 key i := by
  rw [at8_get _ _ (by rw [clM_length]; exact h)]
  simp [clM]
theorem clM_set1 (key : List UInt8) (j : Nat) (h : j < 4) : (clM (3 + 4 * j) 0 key).set (3 + 4 * j) (UInt8.ofNat ((at8 key (3 + 4 * j)).toNat % 16)) = clM (3 + 4 * (j + 1)) 0 key := by
  apply List.ext_getElem
  · simp [clM]
  · intro i h1 h2
    have hi : i < 16 := by simpa [clM] using h2
    rw [List.getElem_set]
    by_cases e : 3 + 4 * j = i
    · subst e
      rw [if_pos rfl]
      simp only [clM, List.getElem_map, List.getElem_range]
      rw [if_pos (by omega)]
    · rw [if_neg e]
      simp only [clM, List.getElem_map, List.getElem_range]
      by_cases h3 : i % 4 = 3 ∧ i < 3 + 4 * j
      · rw [if_pos h3, if_pos (by omega)]
      · rw [if_neg h3, if_neg (by omega), if_neg (by omega)]
theorem clM_set2 (key : List UInt8) (j : Nat) (h : j < 3) : (clM 19 (4 + 4 * j) key).set (4 + 4 * j) (UInt8.ofNat ((at8 key (4 + 4 * j)).toNat / 4 * 4)) = clM 19 (4 + 4 * (j + 1)) key := by
  apply List.ext_getElem
  · simp [clM]
  · intro i h1 h2
    have hi : i < 16 := by simpa [clM] using h2
    rw [List.getElem_set]
    by_cases e : 4 + 4 * j = i
    · subst e
      rw [if_pos rfl]
      simp only [clM, List.getElem_map, List.getElem_range]
      rw [if_neg (by omega), if_pos (by omega)]
    · rw [if_neg e]
      simp only [clM, List.getElem_map, List.getElem_range]
      by_cases h3 : i % 4 = 3 ∧ i < 19
      · rw [if_pos h3, if_pos h3]
      · rw [if_neg h3, if_neg h3]
        by_cases h4 : (i % 4 = 0 ∧ i ≠ 0) ∧ i < 4 + 4 * j
        · rw [if_pos h4, if_pos (by omega)]
        · rw [if_neg h4, if_neg (by omega)]
theorem polyTo_small (r : Nat) (l : List UInt8) (k : Nat) : polyTo r l k < 256 ^ 17 := Nat.lt_trans (polyTo_lt r l k) (by decide)

set_option maxHeartbeats 2000000 in
set_option maxRecDepth 100000 in
theorem refSum_any (kb koff kc : Nat) (key : List UInt8) (a : Option Addr) (len cap : Nat) (l : List UInt8) (w : World) (hkc : 32 ≤ kc) (hK : Byt w (some ⟨kb, koff, none⟩) 32 key) (hB : Byt w a len l) (hlm : len ≤ 10000) (hlc : len ≤ cap) :
    Calls Try.prog 16 #[.slice (some ⟨kb, koff, none⟩) 32 kc, .slice a len cap] w fun e w' => ∃ g, e = .returned (.slice (some ⟨g, 0, none⟩) 16 16) ∧ w.heap.size ≤ g ∧ Below w.heap.size w w' ∧ Byt w' (some ⟨g, 0, none⟩) 16 (tag key l) := by
  have hkl := hK.1
  have hkb := hK.lt (by omega)
  have hl := hB.1
  have HK : Hid (Byt w (some ⟨kb, koff, none⟩) 32 key) := hK
  have HB : Hid (Byt w a len l) := hB
  clear hK hB
  obtain ⟨v1, w1, hap1, own1, hg1⟩ := append_bytes (w.alloc (.cells #[] 5)) w.heap.size (.slice (some ⟨w.heap.size, 0, none⟩) 0 0) 0 [] (World.ownsRow_made w #[] 0 (Nat.le_refl _) (Nat.zero_le _) rfl) ⟨kb, koff, none⟩ 16 kc (key.take 16) ((HK.out.cut (by omega)).later ((Below.refl _ _).alloc (Nat.le_refl _) _)) (by simp) (by omega)
  have bel1 : Below w.heap.size w w1 := ((Below.refl _ _).alloc (Nat.le_refl _) _).grown hg1 (by simp) (fun k hk => by simp [Value.ownBlock] at hk; omega)
  obtain ⟨g, gc, rfl, hbg, _⟩ := Seg.ofOwn own1 (by omega)
  rw [List.nil_append, ← clM_none key hkl] at own1
  have HO1 : Hid (w1.ownsRow w.heap.size 5 1 (.slice (some ⟨g, 0, none⟩) 16 gc) 16 ((clM 3 0 key).map bv)) := own1
  have HW1 : Hid (Below w.heap.size w w1) := bel1
  have HA1 : Hid ((Builtin.append_ #[24, 24] 24 #[.slice (some ⟨w.heap.size, 0, none⟩) 0 0, .slice (some ⟨kb, koff, none⟩) 16 kc]).run Try.prog (w.alloc (.cells #[] 5)) = .ok (.slice (some ⟨g, 0, none⟩) 16 gc) w1) := hap1
  clear hap1 own1 hg1 bel1
  go_enter Try.func16, Try.ntmps16
  go_wp2_with (at_builtin; refine wpList_append_run rfl (.tmp 11) (.tmp 13) 24 rfl _ _ _ _ rfl rfl HA1.out ?_)
  clear HA1
  go_loopw [6] (fun i wr => ∃ j : Nat, j ≤ 4 ∧ i = .int .i64 ((3 + 4 * j : Nat) : Int) ∧ Hid (wr.ownsRow w.heap.size 5 1 (.slice (some ⟨g, 0, none⟩) 16 gc) 16 ((clM (3 + 4 * j) 0 key).map bv)) ∧ Hid (Below w.heap.size w wr)) (fun i _ => 20 - (intOf i).toNat)
  case atStart => exact ⟨0, by omega, rfl, HO1, HW1⟩
  case round =>
    clear HO1 HW1
    obtain ⟨j, hj, rfl, hO, hW⟩ := hrel
    obtain ⟨p, hp⟩ : ∃ p, 3 + 4 * j = p := ⟨_, rfl⟩
    rw [hp] at hO ⊢
    by_cases hlt : j < 4
    · have hp16 : (p : Int) < 16 := by omega
      have hx := (at8 key p).toNat_lt
      have hc : wr.cell? ⟨g, p, none⟩ = some (.int .u8 ((at8 key p).toNat : Int)) := by
        rw [hO.out.cellAt p (by omega), List.getElem?_map, List.getElem?_eq_getElem (by rw [clM_length]; omega)]
        rw [← at8_get _ _ (by rw [clM_length]; omega), clM_at p 0 key p (by omega), if_neg (by omega), if_neg (by omega)]
        rfl
      have hf := hO.out.frozenAt p
      obtain ⟨r, hr⟩ : ∃ r, (at8 key p).toNat % 16 = r := ⟨_, rfl⟩
      have fr1 : ((at8 key p).toNat : Int) % 16 = (r : Int) := by omega
      have fr2 : ((at8 key p).toNat : Int).tmod 16 = (r : Int) := by rw [Int.tmod_eq_emod_of_nonneg (by omega)]; omega
      have HO2 : Hid ((wr.setCell ⟨g, p, none⟩ (.int .u8 (r : Int))).ownsRow w.heap.size 5 1 (.slice (some ⟨g, 0, none⟩) 16 gc) 16 ((clM (3 + 4 * (j + 1)) 0 key).map bv)) := by
        rw [← clM_set1 key j hlt, List.map_set, hp]
        have e : bv (UInt8.ofNat ((at8 key p).toNat % 16)) = .int .u8 (r : Int) := by rw [hr]; simp [bv]; omega
        rw [e]
        exact (hO.out.stored p _).1
      have HW2 : Hid (Below w.heap.size w (wr.setCell ⟨g, p, none⟩ (.int .u8 (r : Int)))) := hW.out.setCell hbg _
      have hrb : r < 16 := by omega
      clear hO hW hr
      go_wp2
      exact ⟨⟨j + 1, by omega, by go_num, HO2, HW2⟩, by simp [intOf]; omega⟩
    · have hp16 : ¬ (p : Int) < 16 := by omega
      have HO2 : Hid (wr.ownsRow w.heap.size 5 1 (.slice (some ⟨g, 0, none⟩) 16 gc) 16 ((clM 19 4 key).map bv)) := by
        have e : clM p 0 key = clM 19 4 key := by
          rw [show p = 19 by omega]
          apply List.ext_getElem
          · simp [clM]
          · intro i h1 h2
            simp only [clM, List.getElem_map, List.getElem_range]
            by_cases h3 : i % 4 = 3 ∧ i < 19
            · rw [if_pos h3, if_pos h3]
            · rw [if_neg h3, if_neg h3, if_neg (by omega), if_neg (by omega)]
        rw [← e]; exact hO.out
      clear hO
      go_wp2
      go_loopw [7] (fun i wr => ∃ j : Nat, j ≤ 3 ∧ i = .int .i64 ((4 + 4 * j : Nat) : Int) ∧ Hid (wr.ownsRow w.heap.size 5 1 (.slice (some ⟨g, 0, none⟩) 16 gc) 16 ((clM 19 (4 + 4 * j) key).map bv)) ∧ Hid (Below w.heap.size w wr)) (fun i _ => 20 - (intOf i).toNat)
      case atStart => exact ⟨0, by omega, rfl, HO2, hW⟩
      case round =>
        clear HO2 hW
        clear hp hp16 hlt hj
        obtain ⟨j, hj, rfl, hO, hW⟩ := hrel
        obtain ⟨p, hp⟩ : ∃ p, 4 + 4 * j = p := ⟨_, rfl⟩
        rw [hp] at hO ⊢
        by_cases hlt : j < 3
        · have hp16 : (p : Int) < 16 := by omega
          have hx := (at8 key p).toNat_lt
          have hc : wr.cell? ⟨g, p, none⟩ = some (.int .u8 ((at8 key p).toNat : Int)) := by
            rw [hO.out.cellAt p (by omega), List.getElem?_map, List.getElem?_eq_getElem (by rw [clM_length]; omega)]
            rw [← at8_get _ _ (by rw [clM_length]; omega), clM_at 19 p key p (by omega), if_neg (by omega), if_neg (by omega)]
            rfl
          have hf := hO.out.frozenAt p
          obtain ⟨r, hr⟩ : ∃ r, (at8 key p).toNat / 4 = r := ⟨_, rfl⟩
          obtain ⟨s, hs⟩ : ∃ s, r * 4 = s := ⟨_, rfl⟩
          have hrb : r < 64 := by omega
          have hsb : s < 256 := by omega
          have fr1 : ((at8 key p).toNat : Int) / 4 = (r : Int) := by omega
          have fr2 : ((at8 key p).toNat : Int).tdiv 4 = (r : Int) := by rw [Int.tdiv_eq_ediv_of_nonneg (by omega)]; omega
          have fs : (r : Int) * 4 = (s : Int) := by omega
          have HO2 : Hid ((wr.setCell ⟨g, p, none⟩ (.int .u8 (s : Int))).ownsRow w.heap.size 5 1 (.slice (some ⟨g, 0, none⟩) 16 gc) 16 ((clM 19 (4 + 4 * (j + 1)) key).map bv)) := by
            rw [← clM_set2 key j hlt, List.map_set, hp]
            have e : bv (UInt8.ofNat ((at8 key p).toNat / 4 * 4)) = .int .u8 (s : Int) := by rw [hr, hs]; simp [bv]; omega
            rw [e]
            exact (hO.out.stored p _).1
          have HW2 : Hid (Below w.heap.size w (wr.setCell ⟨g, p, none⟩ (.int .u8 (s : Int)))) := hW.out.setCell hbg _
          clear hO hW hr hs
          go_wp2
          exact ⟨⟨j + 1, by omega, by go_num, HO2, HW2⟩, by simp [intOf]; omega⟩
        · have hp16 : ¬ (p : Int) < 16 := by omega
          have HR : Hid (Byt wr (some ⟨g, 0, none⟩) 16 (clampB key)) := by
            rw [← clM_all, show (16 : Nat) = p by omega]
            have := Byt.ofOwn hO.out
            rwa [show (16 : Nat) = p by omega] at this
          clear hO
          have HI0 : Hid (Ints (wr.alloc (.cells #[] 3)) (some ⟨wr.heap.size, 0, none⟩) 0 (dig (polyTo (polyR key) l 0))) := ⟨by show (dig 0).length = 0; rw [dig_zero]; rfl, .inl rfl⟩
          have HR0 : Hid (Byt (wr.alloc (.cells #[] 3)) (some ⟨g, 0, none⟩) 16 (clampB key)) := HR.out.later ((Below.refl _ _).alloc (Nat.le_refl _) _)
          have HW0 : Hid (Below w.heap.size w (wr.alloc (.cells #[] 3))) := hW.out.alloc hW.out.size _
          clear hp hW HR hlt hj
          go_wp2
          go_loopw [8, 9] (fun v i wr => ∃ (k n c : Nat) (a' : Option Addr), 16 * k ≤ len + 15 ∧ i = .int .i64 ((16 * k : Nat) : Int) ∧ v = .slice a' n c ∧ n ≤ c ∧ Hid (Ints wr a' n (dig (polyTo (polyR key) l k))) ∧ Hid (Byt wr (some ⟨g, 0, none⟩) 16 (clampB key)) ∧ Hid (Below w.heap.size w wr)) (fun _ i _ => len + 16 - (intOf i).toNat)
          case atStart => exact ⟨0, 0, 0, _, by omega, rfl, rfl, Nat.le_refl _, HI0, HR0, HW0⟩
          case round =>
            clear HI0 HR0 HW0 hp16
            obtain ⟨k, n, c, a', hk, rfl, rfl, hnc, hI, hR, hW⟩ := hrel
            obtain ⟨p, hp⟩ : ∃ p, 16 * k = p := ⟨_, rfl⟩
            rw [hp] at hk ⊢
            have hnb : n ≤ 17 := by rw [← hI.out.1]; exact dig_length_le _ _ (polyTo_small _ _ _)
            by_cases hlt : p < len
            · have i1 : (p : Int) < (len : Int) := by omega
              obtain ⟨q, hq⟩ : ∃ q, q = min (p + 16) len := ⟨_, rfl⟩
              have hq1 : p < q := by omega
              have hq2 : q ≤ len := by omega
              have hq3 : q - p ≤ 16 := by omega
              have hmin : (if (len : Int) < (p : Int) + 16 then (len : Int) else (p : Int) + 16) = (q : Int) := by split <;> omega
              have HPart : Hid ((l.drop p).take (q - p) = cutB l (16 * k) 16) := by
                show _ = _
                unfold cutB
                rw [hp]
                apply List.ext_getElem
                · simp; omega
                · intro i h1 h2; simp
              clear hq
              obtain ⟨ba, offa, rfl⟩ : ∃ ba offa, a = some ⟨ba, offa, none⟩ := by
                rcases HB.out.2 with h0 | ⟨b', off', e, _⟩
                · omega
                · exact ⟨b', off', e⟩
              have hba := HB.out.lt (by omega)
              have hcn : ¬ cap = p := by omega
              have hpc : (p : Int) ≤ (cap : Int) := by omega
              have hqc : (q : Int) ≤ (cap : Int) := by omega
              have hpq : (p : Int) ≤ (q : Int) := by omega
              have hqi : ((q : Int) - (p : Int)) = ((q - p : Nat) : Int) := by omega
              -- the part
              have hBw := (HB.out.below hba hW.out).sub (n := p) (q := q) (by omega) hq2
              obtain ⟨v3, w3, hap3, own3, hg3⟩ := append_bytes (wr.alloc (.cells #[] 5)) wr.heap.size (.slice (some ⟨wr.heap.size, 0, none⟩) 0 0) 0 [] (World.ownsRow_made wr #[] 0 (Nat.le_refl _) (Nat.zero_le _) rfl) ⟨ba, offa + p, none⟩ (q - p) (cap - p) _ (hBw.later ((Below.refl _ _).alloc (Nat.le_refl _) _)) (by simp) (by omega)
              have bel3 : Below wr.heap.size wr w3 := ((Below.refl _ _).alloc (Nat.le_refl _) _).grown hg3 (by simp) (fun k hk => by simp [Value.ownBlock] at hk; omega)
              have hone : Byt (w3.alloc (.cells #[.int .u8 1] 5)) (some ⟨w3.heap.size, 0, none⟩) 1 [1] := byt_lit _ [1] w3.heap.size _ _ _ (heap_alloc_new w3 _) rfl
              obtain ⟨v4, w4, hap4, own4, hg4⟩ := append_bytes (w3.alloc (.cells #[.int .u8 1] 5)) wr.heap.size v3 _ _ (own3.alloc _) ⟨w3.heap.size, 0, none⟩ 1 1 [1] hone (by have := bel3.size; simp; omega) (by omega)
              have bel4 : Below wr.heap.size wr w4 := (bel3.alloc bel3.size _).grown hg4 (by have := bel3.size; simp; omega) (fun k hk => (own3.lt k hk).1)
              rw [List.nil_append, HPart.out] at own4
              obtain ⟨g4, c4, rfl, hbg4, _⟩ := Seg.ofOwn own4 (by omega)
              have HB4 : Hid (Byt w4 (some ⟨g4, 0, none⟩) (0 + (q - p) + 1) (cutB l (16 * k) 16 ++ [1])) := Byt.ofOwn own4
              have HA3 : Hid ((Builtin.append_ #[24, 24] 24 #[.slice (some ⟨wr.heap.size, 0, none⟩) 0 0, .slice (some ⟨ba, offa + p, none⟩) (q - p) (cap - p)]).run Try.prog (wr.alloc (.cells #[] 5)) = .ok v3 w3) := hap3
              have HA4 : Hid ((Builtin.append_ #[24, 24] 24 #[v3, .slice (some ⟨w3.heap.size, 0, none⟩) 1 1]).run Try.prog (w3.alloc (.cells #[.int .u8 1] 5)) = .ok (.slice (some ⟨g4, 0, none⟩) (0 + (q - p) + 1) c4) w4) := hap4
              have HI4 : Hid (Ints w4 a' n (dig (polyTo (polyR key) l k))) := hI.out.later bel4
              have HR4 : Hid (Byt w4 (some ⟨g, 0, none⟩) 16 (clampB key)) := hR.out.later bel4
              have HW4 : Hid (Below w.heap.size w w4) := hW.out.trans (bel4.mono hW.out.size)
              clear hap3 own3 hg3 bel3 hone hap4 own4 hg4 bel4 hBw hI hR hW hbg4
              go_wp2_with (at_builtin; first | refine wpList_append_run rfl (.tmp 47) (.tmp 55) 24 rfl _ _ _ _ rfl rfl HA3.out ?_ | refine wpList_append_run rfl (.tmp 56) (.tmp 57) 24 rfl _ _ _ _ rfl rfl HA4.out ?_)
              clear HA3 HA4
              have HB4' : Hid (Byt w4 (some ⟨g4, 0, none⟩) (q - p + 1) (cutB l (16 * k) 16 ++ [1])) := by have := HB4.out; rwa [Nat.zero_add] at this
              clear HB4
              refine (refNumber_any _ (q - p + 1) c4 _ w4 HB4'.out (by omega)).mono ?_
              rintro e w5 ⟨a5, n5, c5, rfl, hb5, hI5, hn5⟩
              have hI5' : Ints w5 a5 n5 (dig (partN l k)) := hI5
              have hn5b : n5 ≤ 17 := by rw [← hI5'.1]; exact dig_length_le _ _ (partN_lt l k)
              have HI5 : Hid (Ints w5 a5 n5 (dig (partN l k))) := hI5'
              have HI4b : Hid (Ints w5 a' n (dig (polyTo (polyR key) l k))) := HI4.out.later hb5
              have HR5 : Hid (Byt w5 (some ⟨g, 0, none⟩) 16 (clampB key)) := HR4.out.later hb5
              have HW5 : Hid (Below w.heap.size w w5) := HW4.out.trans (hb5.mono HW4.out.size)
              clear hI5 hI5' hb5 HI4 HR4 HW4 HB4'
              go_wp2_with fail
              refine (refPlus_any a' n c _ a5 n5 c5 _ w5 HI4b.out HI5.out (dig_lt _) (dig_lt _) (by omega) (by omega)).mono ?_
              rintro e w6 ⟨a6, n6, c6, rfl, hb6, hI6, hn6⟩
              rw [valD_dig, valD_dig] at hI6
              have hn6b : n6 ≤ 18 := by
                rw [← hI6.1]
                refine dig_length_le _ _ ?_
                have h1 := polyTo_small (polyR key) l k
                have h2 := partN_lt l k
                rw [Nat.pow_succ]; omega
              have HI6 : Hid (Ints w6 a6 n6 (dig (polyTo (polyR key) l k + partN l k))) := hI6
              have HR6 : Hid (Byt w6 (some ⟨g, 0, none⟩) 16 (clampB key)) := HR5.out.later hb6
              have HW6 : Hid (Below w.heap.size w w6) := HW5.out.trans (hb6.mono HW5.out.size)
              clear hI6 hb6 HI4b HI5 HR5 HW5
              go_wp2_with fail
              refine (refNumber_any _ 16 gc _ w6 HR6.out (by omega)).mono ?_
              rintro e w7 ⟨a7, n7, c7, rfl, hb7, hI7, hn7⟩
              have hI7' : Ints w7 a7 n7 (dig (polyR key)) := hI7
              have hn7b : n7 ≤ 16 := by rw [← hI7'.1]; exact dig_length_le _ _ (polyR_lt key)
              have HI7 : Hid (Ints w7 a7 n7 (dig (polyR key))) := hI7'
              have HI6b : Hid (Ints w7 a6 n6 (dig (polyTo (polyR key) l k + partN l k))) := HI6.out.later hb7
              have HR7 : Hid (Byt w7 (some ⟨g, 0, none⟩) 16 (clampB key)) := HR6.out.later hb7
              have HW7 : Hid (Below w.heap.size w w7) := HW6.out.trans (hb7.mono HW6.out.size)
              clear hI7 hI7' hb7 HI6 HR6 HW6
              go_wp2_with fail
              refine (refTimes_any a6 n6 c6 _ a7 n7 c7 _ w7 HI6b.out HI7.out (dig_lt _) (dig_lt _) (by omega) (by omega)).mono ?_
              rintro e w8 ⟨a8, n8, c8, rfl, hb8, hI8, hn8⟩
              rw [valD_dig, valD_dig] at hI8
              have hn8b : n8 ≤ 34 := by
                rw [← hI8.1]
                refine dig_length_le _ _ ?_
                have h1 := polyTo_small (polyR key) l k
                have h2 := partN_lt l k
                have h3 := polyR_lt key
                have h4 : (polyTo (polyR key) l k + partN l k) * polyR key < (256 ^ 17 + 256 ^ 17) * 256 ^ 16 := Nat.mul_lt_mul_of_lt_of_le (by omega) (Nat.le_of_lt h3) (Nat.pow_pos (by decide))
                exact Nat.lt_of_lt_of_le h4 (by decide)
              have HI8 : Hid (Ints w8 a8 n8 (dig ((polyTo (polyR key) l k + partN l k) * polyR key))) := hI8
              have HR8 : Hid (Byt w8 (some ⟨g, 0, none⟩) 16 (clampB key)) := HR7.out.later hb8
              have HW8 : Hid (Below w.heap.size w w8) := HW7.out.trans (hb8.mono HW7.out.size)
              clear hI8 hb8 HI6b HI7 HR7 HW7
              go_wp2_with fail
              refine (refMod_any a8 n8 c8 _ 16 2 5 w8 HI8.out (dig_lt _) hn8 (by omega) (by omega) (by omega) (by omega) (by omega) (by omega)).mono ?_
              rintro e w9 ⟨a9, n9, c9, rfl, hb9, hI9, hn9⟩
              rw [valD_dig] at hI9
              have HI9 : Hid (Ints w9 a9 n9 (dig (polyTo (polyR key) l (k + 1)))) := hI9
              have HR9 : Hid (Byt w9 (some ⟨g, 0, none⟩) 16 (clampB key)) := HR8.out.later hb9
              have HW9 : Hid (Below w.heap.size w w9) := HW8.out.trans (hb9.mono HW8.out.size)
              clear hI9 hb9 HI8 HR8 HW8
              go_wp2
              exact ⟨⟨k + 1, n9, c9, a9, by omega, by go_num, rfl, hn9, HI9, HR9, HW9⟩, by simp [intOf]; omega⟩
            · have i1 : ¬ (p : Int) < (len : Int) := by omega
              have HKn : Hid (k = polyN l.length) := by show _ = _; unfold polyN; omega
              have hKb : Byt wr (some ⟨kb, koff + 16, none⟩) (32 - 16) ((key.drop 16).take (32 - 16)) := (HK.out.below hkb hW.out).sub (n := 16) (q := 32) (by omega) (Nat.le_refl _)
              have HKb : Hid (Byt wr (some ⟨kb, koff + 16, none⟩) 16 (cutB key 16 16)) := hKb
              clear hKb hR
              go_wp2_with fail
              refine (refNumber_any _ 16 (kc - 16) _ wr HKb.out (by omega)).mono ?_
              rintro e w5 ⟨a5, n5, c5, rfl, hb5, hI5, hn5⟩
              have hI5' : Ints w5 a5 n5 (dig (polyS key)) := hI5
              have hn5b : n5 ≤ 16 := by rw [← hI5'.1]; exact dig_length_le _ _ (polyS_lt key)
              have HI5 : Hid (Ints w5 a5 n5 (dig (polyS key))) := hI5'
              have HIb : Hid (Ints w5 a' n (dig (polyTo (polyR key) l k))) := hI.out.later hb5
              have HW5 : Hid (Below w.heap.size w w5) := hW.out.trans (hb5.mono hW.out.size)
              clear hI5 hI5' hb5 hI hW HKb
              go_wp2_with fail
              refine (refPlus_any a' n c _ a5 n5 c5 _ w5 HIb.out HI5.out (dig_lt _) (dig_lt _) (by omega) (by omega)).mono ?_
              rintro e w6 ⟨a6, n6, c6, rfl, hb6, hI6, hn6⟩
              rw [valD_dig, valD_dig] at hI6
              have hn6b : n6 ≤ 18 := by
                rw [← hI6.1]
                refine dig_length_le _ _ ?_
                have h1 := polyTo_small (polyR key) l k
                have h2 := polyS_lt key
                have h3 : (256 : Nat) ^ 16 ≤ 256 ^ 17 := by decide
                rw [Nat.pow_succ]; omega
              have HI6 : Hid (Ints w6 a6 n6 (dig (polyTo (polyR key) l k + polyS key))) := hI6
              have HW6 : Hid (Below w.heap.size w w6) := HW5.out.trans (hb6.mono HW5.out.size)
              clear hI6 hb6 HIb HI5 HW5
              go_wp2_with fail
              refine (refBytes_any a6 n6 c6 16 _ w6 HI6.out (by omega) (by omega)).mono ?_
              rintro e w7 ⟨g7, rfl, hg7, hb7, hB7⟩
              have HB7 : Hid (Byt w7 (some ⟨g7, 0, none⟩) 16 (tag key l)) := by
                unfold tag
                rw [← HKn.out]
                exact hB7
              have HW7 : Hid (Below w.heap.size w w7) := HW6.out.trans (hb7.mono HW6.out.size)
              have hg7' : w.heap.size ≤ g7 := Nat.le_trans HW6.out.size hg7
              clear hB7 hb7 HI6 HW6
              go_wp2
              go_ret
              exact ⟨g7, rfl, hg7', HW7.out, HB7.out⟩
end Go.Proofs.Ytcnihgjibiidpaa
