/- The program's attribute, whatever comes (stage 12). -/
import Derived.Test.YtejbhjcopldekaaStuP
import Derived.Test.YtejbhjcopldekaaMathStuD
namespace Go.Proofs.Ytejbhjcopldekaa
set_option linter.unusedVariables false
set_option maxRecDepth 100000
open Go.RowKit

/-- What the next attribute makes of a message. -/
def nextS (b : List UInt8) (p : Nat) (m : SM) : Option SM :=
  if b.length < p + 4 then none else if b.length < p + 4 + (sTwo b (p + 2) + 3) / 4 * 4 then none
  else m.hstep (sTwo b p, cutB b (p + 4) (sTwo b (p + 2)))
theorem attr_any (w0 : World) (r g p : Nat) (b : List UInt8) (m : SM) (ua : Option Addr) (uc : Nat) (w : World) (hR : Rd w0 r (b.drop p) w) (hL : Lm w0 g m ua uc w) (hrg : r < g) (hb : b.length ≤ 1000) (hul : m.unk.length ≤ 2000) :
    Calls Try.prog 50 #[.pointer (some ⟨r, 0, none⟩), .pointer (some ⟨g, 0, none⟩)] w fun e w' => AttrEnd w0 r g (b.drop (p + 4 + (sTwo b (p + 2) + 3) / 4 * 4)) (nextS b p m) e w' := by
  unfold nextS
  by_cases h1 : b.length < p + 4
  · rw [if_pos h1]
    exact attr_short w0 r g p b m ua uc w hR hL hrg hb (.inl h1)
  rw [if_neg h1]
  by_cases h2 : b.length < p + 4 + (sTwo b (p + 2) + 3) / 4 * 4
  · rw [if_pos h2]
    exact attr_short w0 r g p b m ua uc w hR hL hrg hb (.inr h2)
  rw [if_neg h2]
  have hlen : p + 4 + (sTwo b (p + 2) + 3) / 4 * 4 ≤ b.length := by omega
  by_cases k0 : sTwo b p = 32
  · exact attr_mapped w0 r g p b m ua uc w _ hR hL hrg hb hul hlen rfl k0
  by_cases k1 : sTwo b p = 9
  · exact attr_code w0 r g p b m ua uc w _ hR hL hrg hb hul hlen rfl k1
  by_cases k2 : sTwo b p = 10
  · exact attr_list w0 r g p b m ua uc w _ hR hL hrg hb hul hlen rfl k2
  by_cases k3 : sTwo b p = 32802
  · exact attr_soft w0 r g p b m ua uc w _ hR hL hrg hb hul hlen rfl k3
  by_cases k4 : sTwo b p = 32808
  · exact attr_crc w0 r g p b m ua uc w _ hR hL hrg hb hul hlen rfl k4
  exact attr_other w0 r g p b m ua uc w _ hR hL hrg hb hul hlen rfl k0 k1 k2 k3 k4
theorem hParse_next (b : List UInt8) (f p : Nat) (m : SM) (h : ¬ b.length ≤ p) : hParse b (f + 1) p m = (nextS b p m).bind fun x => hParse b f (p + 4 + (sTwo b (p + 2) + 3) / 4 * 4) x := by
  rw [hParse, if_neg h]
  unfold nextS
  split
  · rfl
  · split
    · rfl
    · rfl
/-- What a message that is heard has in any case. -/
structure Sane (n : Nat) (m : SM) : Prop where
  cls : m.cls = 0 ∨ m.cls = 2 ∨ m.cls = 3
  soft : m.soft.length ≤ 1000
  reason : m.reason.length ≤ 1000
  nums : ∀ x ∈ m.unk, 0 ≤ x ∧ x ≤ 65535
  unk : m.unk.length ≤ n
theorem next_sane (b : List UInt8) (p : Nat) (m m' : SM) (hb : b.length ≤ 1000) (hm : Sane p m) (h : nextS b p m = some m') : p + 4 + (sTwo b (p + 2) + 3) / 4 * 4 ≤ b.length ∧ Sane (p + 4 + (sTwo b (p + 2) + 3) / 4 * 4) m' := by
  unfold nextS at h
  split at h
  · cases h
  split at h
  · cases h
  rename_i h1 h2
  refine ⟨by omega, ?_⟩
  obtain ⟨sz, hsz⟩ : ∃ sz, sTwo b (p + 2) = sz := ⟨_, rfl⟩
  rw [hsz] at h h2 ⊢
  have hdl : (cutB b (p + 4) sz).length = sz := cutB_length b (p + 4) sz (by omega)
  have hk := sTwo_lt9 b p
  obtain ⟨D, hD⟩ : ∃ D, cutB b (p + 4) sz = D := ⟨_, rfl⟩
  obtain ⟨kd, hkd⟩ : ∃ kd, sTwo b p = kd := ⟨_, rfl⟩
  rw [hD] at h hdl
  rw [hkd] at h hk
  unfold SM.hstep at h
  split at h
  · split at h
    · cases h
    · cases h; exact ⟨hm.cls, hm.soft, hm.reason, hm.nums, by have := hm.unk; show m.unk.length ≤ _; omega⟩
  split at h
  · split at h
    · cases h
    · cases h; exact ⟨hm.cls, hm.soft, by show (D.drop 4).length ≤ 1000; rw [List.length_drop]; omega, hm.nums, by have := hm.unk; show m.unk.length ≤ _; omega⟩
  split at h
  · split at h
    · cases h
    · cases h
      refine ⟨hm.cls, hm.soft, hm.reason, fun x hx => ?_, ?_⟩
      · rcases List.mem_append.1 hx with hx | hx
        · exact hm.nums x hx
        · unfold sTwos at hx
          obtain ⟨i, _, rfl⟩ := List.mem_map.1 hx
          have := sTwo_lt9 D (2 * i)
          show 0 ≤ ((sTwo D (2 * i) : Nat) : Int) ∧ ((sTwo D (2 * i) : Nat) : Int) ≤ 65535
          omega
      · show (m.unk ++ sTwos D (D.length / 2)).length ≤ _
        have := hm.unk
        unfold sTwos
        rw [List.length_append, List.length_map, List.length_range]
        omega
  split at h
  · cases h; exact ⟨hm.cls, by show D.length ≤ 1000; omega, hm.reason, hm.nums, by have := hm.unk; show m.unk.length ≤ _; omega⟩
  split at h
  · cases h; exact ⟨hm.cls, hm.soft, hm.reason, hm.nums, by have := hm.unk; omega⟩
  · cases h
    refine ⟨hm.cls, hm.soft, hm.reason, fun x hx => ?_, ?_⟩
    · rcases List.mem_append.1 hx with hx | hx
      · exact hm.nums x hx
      · simp only [List.mem_singleton] at hx
        subst hx
        show 0 ≤ (kd : Int) ∧ (kd : Int) ≤ 65535
        omega
    · have := hm.unk
      show (m.unk ++ [(kd : Int)]).length ≤ _
      simp only [List.length_append, List.length_singleton]
      omega
end Go.Proofs.Ytejbhjcopldekaa
