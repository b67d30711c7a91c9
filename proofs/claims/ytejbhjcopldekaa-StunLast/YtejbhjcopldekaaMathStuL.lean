/- What a change of the last bytes does to a message's text (stage 12). -/
import Derived.Test.YtejbhjcopldekaaMathStuD
namespace Go.Proofs.Ytejbhjcopldekaa
set_option linter.unusedVariables false
theorem xor32b' (a : Nat) (h : a < 4294967296) : a ^^^ 1398035790 < 4294967296 := xor_lt32 a 1398035790 h (by decide)
theorem last_more (m : SM) (hid : m.id.length = 12) (y : UInt8) : decS (encS m ++ [y]) = none := by
  cases hd : decS (encS m ++ [y]) with
  | none => rfl
  | some m' =>
    obtain ⟨_, h2, h3, _⟩ := (decS_iff _ m').1 hd
    have h4 := encS_four m' h3
    have h5 := encS_four m hid
    rw [h2, List.length_append] at h4
    simp at h4
    omega
theorem last_fin (b : List UInt8) (m' : SM) (h : decS b = some m') : sFin (b.take (b.length - 8)) = b := by
  obtain ⟨_, h2, _, _⟩ := (decS_iff _ m').1 h
  rw [← h2, encS]
  exact sFin_back _
theorem fin_last (o : List UInt8) : ∃ p, sFin o = p ++ putB 4 ((crcOf o).toNat ^^^ 1398035790) true ∧ p.length = o.length + 4 := by
  refine ⟨o ++ putB 2 32808 true ++ putB 2 4 true, ?_, by simp [putB_length]⟩
  unfold sFin sAttr
  rw [putB_length]
  have e : pad4 4 = [] := rfl
  rw [e]
  simp
theorem last_crc (b : List UInt8) (m' : SM) (h : decS b = some m') (h28 : 28 ≤ b.length) : getV b true (b.length - 4) 4 = (crcOf (b.take (b.length - 8))).toNat ^^^ 1398035790 := by
  have hf := last_fin b m' h
  obtain ⟨p, h1, h2⟩ := fin_last (b.take (b.length - 8))
  rw [hf] at h1
  rw [List.length_take] at h2
  have h3 := getV_at b p [] 4 ((crcOf (b.take (b.length - 8))).toNat ^^^ 1398035790) (b.length - 4) (by rw [List.append_nil]; exact h1) (by omega)
  rw [h3]
  have hx := xor32b' (crcOf (b.take (b.length - 8))).toNat (crcOf (b.take (b.length - 8))).isLt
  exact Nat.mod_eq_of_lt hx
theorem last_same (m : SM) (k : Nat) (hk : (encS m).length - 4 ≤ k) (hk2 : k < (encS m).length) (h8 : 8 ≤ (encS m).length) (y : UInt8) (hy : y ≠ 0) : decS ((encS m).set k (at8 (encS m) k ^^^ y)) = none := by
  cases hd : decS ((encS m).set k (at8 (encS m) k ^^^ y)) with
  | none => rfl
  | some m' =>
    exfalso
    have hf := last_fin _ m' hd
    rw [List.length_set, List.take_set_of_le (by omega)] at hf
    have hb : sFin ((encS m).take ((encS m).length - 8)) = encS m := by
      rw [encS]
      exact sFin_back _
    rw [hb] at hf
    have e : at8 (encS m) k = at8 (encS m) k ^^^ y := by
      have h2 := congrArg (fun l => at8 l k) hf
      simpa [at8, hk2] using h2
    have h3 : at8 (encS m) k ^^^ at8 (encS m) k = at8 (encS m) k ^^^ (at8 (encS m) k ^^^ y) := by rw [← e]
    rw [UInt8.xor_self, ← UInt8.xor_assoc, UInt8.xor_self, UInt8.zero_xor] at h3
    exact hy h3.symm
theorem orU (a b : Nat) (ha : a < 4294967296) (hb : b < 4294967296) : bits .or .u32 (a : Int) (b : Int) = ((a ||| b : Nat) : Int) := by
  have hx : a ||| b < 4294967296 := Nat.or_lt_two_pow (n := 32) ha hb
  have e : (BitVec.ofInt 32 (a : Int) ||| BitVec.ofInt 32 (b : Int)).toNat = a ||| b := by
    rw [BitVec.toNat_or, BitVec.toNat_ofInt, BitVec.toNat_ofInt]
    congr 1 <;> omega
  show IntKind.u32.wrap ((BitVec.ofInt 32 (a : Int) ||| BitVec.ofInt 32 (b : Int)).toNat : Int) = _
  rw [e, IntKind.wrap_u32]
  omega
/-- Four bytes, the highest first, as they are put together by bits. -/
theorem or_four (d4 d3 d2 d1 : Nat) (b4 : d4 < 256) (b3 : d3 < 256) (b2 : d2 < 256) (b1 : d1 < 256) :
    bits .or .u32 (bits .or .u32 (bits .or .u32 (IntKind.u32.wrap (IntKind.u32.wrap (d4 : Int) * 16777216)) (IntKind.u32.wrap (IntKind.u32.wrap (d3 : Int) * 65536))) (IntKind.u32.wrap (IntKind.u32.wrap (d2 : Int) * 256))) (IntKind.u32.wrap (d1 : Int)) =
      ((d4 * 16777216 + d3 * 65536 + d2 * 256 + d1 : Nat) : Int) := by
  have w4 : IntKind.u32.wrap (IntKind.u32.wrap (d4 : Int) * 16777216) = ((d4 * 16777216 : Nat) : Int) := by
    rw [show IntKind.u32.wrap (d4 : Int) = (d4 : Int) by rw [IntKind.wrap_u32]; omega, IntKind.wrap_u32]; omega
  have w3 : IntKind.u32.wrap (IntKind.u32.wrap (d3 : Int) * 65536) = ((d3 * 65536 : Nat) : Int) := by
    rw [show IntKind.u32.wrap (d3 : Int) = (d3 : Int) by rw [IntKind.wrap_u32]; omega, IntKind.wrap_u32]; omega
  have w2 : IntKind.u32.wrap (IntKind.u32.wrap (d2 : Int) * 256) = ((d2 * 256 : Nat) : Int) := by
    rw [show IntKind.u32.wrap (d2 : Int) = (d2 : Int) by rw [IntKind.wrap_u32]; omega, IntKind.wrap_u32]; omega
  have w1 : IntKind.u32.wrap (d1 : Int) = (d1 : Int) := by rw [IntKind.wrap_u32]; omega
  have o1 : d4 * 16777216 ||| d3 * 65536 = d4 * 16777216 + d3 * 65536 := by
    have := Nat.two_pow_add_eq_or_of_lt (i := 24) (b := d3 * 65536) (by omega) d4
    rw [Nat.mul_comm d4]
    exact this.symm
  have o2 : (d4 * 16777216 + d3 * 65536) ||| d2 * 256 = d4 * 16777216 + d3 * 65536 + d2 * 256 := by
    have := Nat.two_pow_add_eq_or_of_lt (i := 16) (b := d2 * 256) (by omega) (d4 * 256 + d3)
    have e : d4 * 16777216 + d3 * 65536 = 2 ^ 16 * (d4 * 256 + d3) := by omega
    rw [e]
    exact this.symm
  have o3 : (d4 * 16777216 + d3 * 65536 + d2 * 256) ||| d1 = d4 * 16777216 + d3 * 65536 + d2 * 256 + d1 := by
    have := Nat.two_pow_add_eq_or_of_lt (i := 8) (b := d1) (by omega) (d4 * 65536 + d3 * 256 + d2)
    have e : d4 * 16777216 + d3 * 65536 + d2 * 256 = 2 ^ 8 * (d4 * 65536 + d3 * 256 + d2) := by omega
    rw [e]
    exact this.symm
  rw [w4, w3, w2, w1, orU _ _ (by omega) (by omega), o1, orU _ _ (by omega) (by omega), o2, orU _ _ (by omega) (by omega), o3]
theorem getV_four (b : List UInt8) (p : Nat) (h : p + 4 ≤ b.length) : getV b true p 4 = (at8 b p).toNat * 16777216 + (at8 b (p + 1)).toNat * 65536 + (at8 b (p + 2)).toNat * 256 + (at8 b (p + 3)).toNat := by
  have e : cutB b p 4 = [at8 b p, at8 b (p + 1), at8 b (p + 2), at8 b (p + 3)] := by
    unfold cutB
    rw [List.drop_eq_getElem_cons (by omega : p < b.length), List.drop_eq_getElem_cons (by omega : p + 1 < b.length), List.drop_eq_getElem_cons (by omega : p + 1 + 1 < b.length), List.drop_eq_getElem_cons (by omega : p + 1 + 1 + 1 < b.length)]
    rw [at8_get b p (by omega), at8_get b (p + 1) (by omega), at8_get b (p + 2) (by omega), at8_get b (p + 3) (by omega)]
    rfl
  unfold getV
  rw [e]
  simp [valB, leN]
  omega
theorem at8_take (l : List UInt8) (n i : Nat) (h : i < n) : at8 (l.take n) i = at8 l i := by
  simp [at8, h]
/-- A byte of a row is written anew. -/
theorem byt_setAt {w : World} {g n k : Nat} {l : List UInt8} (h : Byt w (some ⟨g, 0, none⟩) n l) (hk : k < n) (z : UInt8) : Byt (w.setCell ⟨g, k, none⟩ (.int .u8 (z.toNat : Int))) (some ⟨g, 0, none⟩) n (l.set k z) := by
  have hl := h.1
  refine ⟨by rw [List.length_set]; exact hl, .inr ⟨g, 0, rfl, fun i hi => ?_⟩⟩
  rcases h.2 with h0 | ⟨b', off', e, hc⟩
  · omega
  cases e
  have hck := hc k hk
  have hci := hc i hi
  rw [Nat.zero_add] at hck hci ⊢
  by_cases hik : i = k
  · subst hik
    have e1 : at8 (l.set i z) i = z := by simp [at8, show i < l.length by omega]
    rw [e1]
    simp [go_sem, hck]
  · have e1 : at8 (l.set k z) i = at8 l i := by simp [at8, Ne.symm hik]
    rw [e1]
    simp [go_sem, hci]
end Go.Proofs.Ytejbhjcopldekaa
