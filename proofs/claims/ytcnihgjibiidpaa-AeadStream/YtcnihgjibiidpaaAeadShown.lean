/- The walk over what must be in any case (aead), and what the laws of it share. -/
import Derived.Test.YtcnihgjibiidpaaAeadO
namespace Go.Proofs.Ytcnihgjibiidpaa
set_option linter.unusedVariables false
open Go.RowKit

def shKey : List UInt8 := 1 :: List.replicate 31 0
def shNonce : List UInt8 := 2 :: List.replicate 11 0
theorem short_no (b : List UInt8) (key nonce ad : List UInt8) (h : b.length < 16) : ¬ Sealed key nonce ad b := fun hs => by have := hs.1; omega
/-- A row of bytes that came in: nil has no room. -/
theorem row_nil {k : IntKind} {w : World} {a : Option Addr} {len cap : Nat} {zs : List Int} (h : IsRow k w a len cap zs) : a = none → cap = 0 := by
  intro e
  rcases h with ⟨_, _, h0, _⟩ | ⟨x, h0, _⟩
  · exact h0
  · rw [e] at h0; cases h0

set_option maxHeartbeats 2000000 in
set_option maxRecDepth 100000 in
theorem aeadShown_any (w : World) : Calls Try.prog 18 #[] w fun e w' => e = .returned (.bool true) ∧ Below w.heap.size w w' := by
  have kd0 : ∀ (W : World) (C : Array Value) (n c : Nat), (convert 24 24 (.slice (some ⟨W.heap.size, 0, none⟩) n c)).run Try.prog (W.alloc (.cells C 5)) = .ok (.slice (some ⟨W.heap.size, 0, none⟩) n c) (W.alloc (.cells C 5 (C.size, C.size + 1))) := fun W C n c =>
    Lib.run_convert_bytes_const (P := Try.prog) W 24 5 C n c Try.underlying24 Try.underlying5
  have kd1 : ∀ (W : World) (O : Obj) (C : Array Value) (n c : Nat), (convert 24 24 (.slice (some ⟨W.heap.size + 1, 0, none⟩) n c)).run Try.prog ((W.alloc O).alloc (.cells C 5)) = .ok (.slice (some ⟨W.heap.size + 1, 0, none⟩) n c) ((W.alloc O).alloc (.cells C 5 (C.size, C.size + 1))) := fun W O C n c => by
    have := Lib.run_convert_bytes_const (P := Try.prog) (W.alloc O) 24 5 C n c Try.underlying24 Try.underlying5
    simpa using this
  go_enter Try.func18, Try.ntmps18
  go_wp2_with fail
  have hA1 : Byt ((w.alloc (.cells #[.int .u8 98, .int .u8 101, .int .u8 115, .int .u8 105, .int .u8 100, .int .u8 101] 5 (6, 7))).alloc (.cells #[.int .u8 97, .int .u8 98, .int .u8 99] 5 (3, 4))) (some ⟨w.heap.size, 0, none⟩) 6 [98, 101, 115, 105, 100, 101] :=
    (byt_lit _ [98, 101, 115, 105, 100, 101] _ _ _ (6, 7) (heap_alloc_new w _) rfl).later ((Below.refl _ _).alloc (Nat.le_refl _) _)
  have hC1 : Byt ((w.alloc (.cells #[.int .u8 98, .int .u8 101, .int .u8 115, .int .u8 105, .int .u8 100, .int .u8 101] 5 (6, 7))).alloc (.cells #[.int .u8 97, .int .u8 98, .int .u8 99] 5 (3, 4))) (some ⟨w.heap.size + 1, 0, none⟩) 3 [97, 98, 99] :=
    byt_lit _ [97, 98, 99] _ _ _ (3, 4) (by have := heap_alloc_new (w.alloc (.cells #[.int .u8 98, .int .u8 101, .int .u8 115, .int .u8 105, .int .u8 100, .int .u8 101] 5 (6, 7))) (.cells #[.int .u8 97, .int .u8 98, .int .u8 99] 5 (3, 4)); rwa [World.size_alloc] at this) rfl
  refine (seal_any shKey shNonce _ 6 6 _ _ 3 3 _ _ rfl rfl hA1 (by intro e; cases e) (by omega) (by omega) (by unfold maxLen; omega) hC1 (by intro e; cases e) (by omega) (by omega) (by unfold maxLen; omega)).mono ?_
  rintro e w1 ⟨v1, rfl, hb1, own1⟩
  obtain ⟨a1, c1, rfl, hB1, hc1, hm1, hn1⟩ := own_parts own1
  have HB1 : Hid (Byt w1 a1 19 (sealB shKey shNonce [98, 101, 115, 105, 100, 101] [97, 98, 99])) := hB1
  have Hm1 : Hid (c1 ≤ maxLen) := hm1
  have Hn1 : Hid (a1 = none → c1 = 0) := hn1
  have HW1 : Hid (Below w.heap.size w w1) := (((Below.refl _ _).alloc (Nat.le_refl _) _).alloc (by simp) _).trans (hb1.mono (by simp; omega))
  clear hA1 hC1 hb1 own1 hB1 hm1 hn1
  go_wp2_with fail
  have hA2 : Byt (w1.alloc (.cells #[.int .u8 98, .int .u8 101, .int .u8 115, .int .u8 105, .int .u8 100, .int .u8 101] 5 (6, 7))) (some ⟨w1.heap.size, 0, none⟩) 6 [98, 101, 115, 105, 100, 101] := byt_lit _ [98, 101, 115, 105, 100, 101] _ _ _ (6, 7) (heap_alloc_new w1 _) rfl
  refine (open_yes shKey shNonce _ 6 6 _ a1 19 c1 _ _ rfl rfl hA2 (by intro e; cases e) (by omega) (by omega) (by unfold maxLen; omega) (HB1.out.later ((Below.refl _ _).alloc (Nat.le_refl _) _)) Hn1.out (by omega) hc1 Hm1.out (sealed_seal _ _ _ _)).mono ?_
  rintro e w2 ⟨a2, c2, rfl, hb2, hB2⟩
  rw [open_seal] at hB2
  have HB2 : Hid (Byt w2 a2 3 [97, 98, 99]) := hB2
  have HW2 : Hid (Below w.heap.size w w2) := HW1.out.trans ((((Below.refl _ _).alloc (Nat.le_refl _) _).trans (hb2.mono (by simp))).mono HW1.out.size)
  clear hA2 hb2 hB2 HB1 HW1 Hm1 Hn1
  go_wp2_with fail
  have hC3 : Byt (w2.alloc (.cells #[.int .u8 115, .int .u8 104, .int .u8 111, .int .u8 114, .int .u8 116] 5 (5, 6))) (some ⟨w2.heap.size, 0, none⟩) 5 [115, 104, 111, 114, 116] := byt_lit _ [115, 104, 111, 114, 116] _ _ _ (5, 6) (heap_alloc_new w2 _) rfl
  refine (open_no shKey shNonce none 0 0 [] _ 5 5 _ _ rfl rfl ⟨rfl, .inl rfl⟩ (by intro _; rfl) (by omega) (by omega) (by unfold maxLen; omega) hC3 (by intro e; cases e) (by omega) (by omega) (by unfold maxLen; omega) (short_no _ _ _ _ (by simp))).mono ?_
  rintro e w3 ⟨a3, c3, rfl, hb3⟩
  have hb3' : Below w2.heap.size w2 w3 := ((Below.refl _ _).alloc (Nat.le_refl _) _).trans (hb3.mono (by simp))
  have HW3 : Hid (Below w.heap.size w w3) := HW2.out.trans (hb3'.mono HW2.out.size)
  have hS := conv_bytes w3 a2 3 c2 [97, 98, 99] (HB2.out.later hb3')
  have hS1 : (S [97, 98, 99]).toList = [97, 98, 99] := S_toList _
  clear hC3 hb3 hb3' HB2 HW2 kd0 kd1
  go_wp2
  go_ret
  exact ⟨rfl, HW3.out⟩
end Go.Proofs.Ytcnihgjibiidpaa
